/-
  The document's tokens (pythiaref08): a token, in memory: brackets. No condition.
-/
import Derived.Test.YtfkbbbjicaedmaaGreatDoorURx4
namespace Go.Proofs.YtfkbbbjicaedmaaGreatDoor
open Go.RowKit Go.Shelf Go.Maps
set_option linter.unusedVariables false
set_option linter.unusedSimpArgs false
set_option maxRecDepth 1000000 in
set_option maxHeartbeats 16000000 in
theorem rToken_punct (L : List UInt8) (a : Nat) (hl : L.length ≤ 16384) {c : UInt8} {r : List UInt8} (hd : L.drop a = c :: r) (h1b : smallB c = false) (h2b : capB c = false) (h3b : digB c = false) (h4b : punctB c = true) (w : World) : Calls Tryz.prog 60 #[.string (str L), .int .i64 a] w (TokP a (rtokL a (c :: r)) w) := by
  have hs := str_size L
  obtain ⟨h1, h2, HG0⟩ := str_getAt3 hd
  have HG := Lib.hid HG0
  clear HG0
  have q1 := Lib.hid (fun W => rSmall_any c W)
  rw [h1b] at q1
  unfold byteV at q1
  have q2 := Lib.hid (fun W => rCapital_any c W)
  rw [h2b] at q2
  unfold byteV at q2
  have q3 := Lib.hid (fun W => rDigit_any c W)
  rw [h3b] at q3
  unfold byteV at q3
  have HX : Hid (rtokL a (c :: r) = .good ⟨4, [c], 0, false⟩ (a + 1) r) := Lib.hid (by unfold rtokL; simp [h1b, h2b, h3b, h4b, oneL])
  have hlen := congrArg List.length hd
  rw [List.length_drop] at hlen
  simp only [List.length_cons] at hlen
  obtain ⟨N, hN⟩ : ∃ N : Nat, N = a + 1 := ⟨_, rfl⟩
  have htk := take_str L a N
  rw [hd, show N - a = 1 by omega] at htk
  have hNi : (a : Int) + 1 = (N : Int) := by omega
  have h5 : (N : Int) ≤ (L.length : Int) := by omega
  have haN : (a : Int) ≤ (N : Int) := by omega
  have HN := Lib.hid hN
  clear hN
  obtain ⟨s, hsl⟩ : ∃ s, str L = s := ⟨_, rfl⟩
  rw [hsl] at hs htk HG ⊢
  obtain ⟨hks, hsk⟩ := HG.out
  have HCL := Lib.hid trivial
  obtain ⟨X, hX⟩ : ∃ X, rtokL a (c :: r) = X := ⟨_, rfl⟩
  rw [hX] at HX ⊢
  obtain ⟨f4, hz, hk⟩ := four_is w a
  obtain ⟨W4, hW4⟩ : ∃ W4, four w a = W4 := ⟨_, rfl⟩
  rw [hW4] at f4 hz hk
  have HW := Lib.hid hW4
  have HF := Lib.hid f4
  have HK := Lib.hid hk
  have hp := punct_int c
  rw [h4b] at hp
  rcases e40 : ((c.toNat : Int) == 40) with _ | _
  rotate_left
  · clear hp
    clear hd h2 hsl hX f4 hk hW4 HCL
    go_enter Tryz.func60, Tryz.ntmps60
    go_wp2_with fail
    change Calls Tryz.prog _ _ (four w a) _
    rw [HW.out]
    refine (q1.out _).mono ?_
    rintro e x1 ⟨rfl, rfl⟩
    go_wp2_with fail
    refine (q2.out _).mono ?_
    rintro e x2 ⟨rfl, rfl⟩
    go_wp2_with fail
    obtain ⟨lt, l0, l1, l2, a0, a1, a2, a3, a4, a5, b0, b1, c0, c1, c2, c3, c4, c5, d0, d1, za, zb, zc, zd⟩ := HF.out.cells
    refine (q3.out _).mono ?_
    rintro e x3 ⟨rfl, rfl⟩
    go_wp2_with fail
    go_region
    go_wp2_with fail
    refine bodyPost_ret (v := .tuple #[.agg #[.int .i64 4, .string (str [c]), .int .i64 0, .int .i64 a, .bool false, .bool false], .int .i64 (N : Int), .agg #[.int .i64 0, .int .i64 0]]) (by simp [results, Tryz.results60, go_sem, a0, a1, a2, a3, a4, a5, b0, b1]) rfl ?_
    exact ⟨_, _, _, _, _, _, _, rfl, by first | exact ((((((((((HK.out.setCell (by dsimp only; omega) _).setCell (by dsimp only; omega) _).setCell (by dsimp only; omega) _).setCell (by dsimp only; omega) _).setCell (by dsimp only; omega) _).setCell (by dsimp only; omega) _).setCell (by dsimp only; omega) _).setCell (by dsimp only; omega) _).setCell (by dsimp only; omega) _).setCell (by dsimp only; omega) _).drew, by rw [HX.out]; have := HN.out; simp; omega⟩
  rcases e41 : ((c.toNat : Int) == 41) with _ | _
  rotate_left
  · clear hp
    clear hd h2 hsl hX f4 hk hW4 HCL
    go_enter Tryz.func60, Tryz.ntmps60
    go_wp2_with fail
    change Calls Tryz.prog _ _ (four w a) _
    rw [HW.out]
    refine (q1.out _).mono ?_
    rintro e x1 ⟨rfl, rfl⟩
    go_wp2_with fail
    refine (q2.out _).mono ?_
    rintro e x2 ⟨rfl, rfl⟩
    go_wp2_with fail
    obtain ⟨lt, l0, l1, l2, a0, a1, a2, a3, a4, a5, b0, b1, c0, c1, c2, c3, c4, c5, d0, d1, za, zb, zc, zd⟩ := HF.out.cells
    refine (q3.out _).mono ?_
    rintro e x3 ⟨rfl, rfl⟩
    go_wp2_with fail
    go_region
    go_wp2_with fail
    refine bodyPost_ret (v := .tuple #[.agg #[.int .i64 4, .string (str [c]), .int .i64 0, .int .i64 a, .bool false, .bool false], .int .i64 (N : Int), .agg #[.int .i64 0, .int .i64 0]]) (by simp [results, Tryz.results60, go_sem, a0, a1, a2, a3, a4, a5, b0, b1]) rfl ?_
    exact ⟨_, _, _, _, _, _, _, rfl, by first | exact ((((((((((HK.out.setCell (by dsimp only; omega) _).setCell (by dsimp only; omega) _).setCell (by dsimp only; omega) _).setCell (by dsimp only; omega) _).setCell (by dsimp only; omega) _).setCell (by dsimp only; omega) _).setCell (by dsimp only; omega) _).setCell (by dsimp only; omega) _).setCell (by dsimp only; omega) _).setCell (by dsimp only; omega) _).drew, by rw [HX.out]; have := HN.out; simp; omega⟩
  rcases e91 : ((c.toNat : Int) == 91) with _ | _
  rotate_left
  · clear hp
    clear hd h2 hsl hX f4 hk hW4 HCL
    go_enter Tryz.func60, Tryz.ntmps60
    go_wp2_with fail
    change Calls Tryz.prog _ _ (four w a) _
    rw [HW.out]
    refine (q1.out _).mono ?_
    rintro e x1 ⟨rfl, rfl⟩
    go_wp2_with fail
    refine (q2.out _).mono ?_
    rintro e x2 ⟨rfl, rfl⟩
    go_wp2_with fail
    obtain ⟨lt, l0, l1, l2, a0, a1, a2, a3, a4, a5, b0, b1, c0, c1, c2, c3, c4, c5, d0, d1, za, zb, zc, zd⟩ := HF.out.cells
    refine (q3.out _).mono ?_
    rintro e x3 ⟨rfl, rfl⟩
    go_wp2_with fail
    go_region
    go_wp2_with fail
    refine bodyPost_ret (v := .tuple #[.agg #[.int .i64 4, .string (str [c]), .int .i64 0, .int .i64 a, .bool false, .bool false], .int .i64 (N : Int), .agg #[.int .i64 0, .int .i64 0]]) (by simp [results, Tryz.results60, go_sem, a0, a1, a2, a3, a4, a5, b0, b1]) rfl ?_
    exact ⟨_, _, _, _, _, _, _, rfl, by first | exact ((((((((((HK.out.setCell (by dsimp only; omega) _).setCell (by dsimp only; omega) _).setCell (by dsimp only; omega) _).setCell (by dsimp only; omega) _).setCell (by dsimp only; omega) _).setCell (by dsimp only; omega) _).setCell (by dsimp only; omega) _).setCell (by dsimp only; omega) _).setCell (by dsimp only; omega) _).setCell (by dsimp only; omega) _).drew, by rw [HX.out]; have := HN.out; simp; omega⟩
  rcases e93 : ((c.toNat : Int) == 93) with _ | _
  rotate_left
  · clear hp
    clear hd h2 hsl hX f4 hk hW4 HCL
    go_enter Tryz.func60, Tryz.ntmps60
    go_wp2_with fail
    change Calls Tryz.prog _ _ (four w a) _
    rw [HW.out]
    refine (q1.out _).mono ?_
    rintro e x1 ⟨rfl, rfl⟩
    go_wp2_with fail
    refine (q2.out _).mono ?_
    rintro e x2 ⟨rfl, rfl⟩
    go_wp2_with fail
    obtain ⟨lt, l0, l1, l2, a0, a1, a2, a3, a4, a5, b0, b1, c0, c1, c2, c3, c4, c5, d0, d1, za, zb, zc, zd⟩ := HF.out.cells
    refine (q3.out _).mono ?_
    rintro e x3 ⟨rfl, rfl⟩
    go_wp2_with fail
    go_region
    go_wp2_with fail
    refine bodyPost_ret (v := .tuple #[.agg #[.int .i64 4, .string (str [c]), .int .i64 0, .int .i64 a, .bool false, .bool false], .int .i64 (N : Int), .agg #[.int .i64 0, .int .i64 0]]) (by simp [results, Tryz.results60, go_sem, a0, a1, a2, a3, a4, a5, b0, b1]) rfl ?_
    exact ⟨_, _, _, _, _, _, _, rfl, by first | exact ((((((((((HK.out.setCell (by dsimp only; omega) _).setCell (by dsimp only; omega) _).setCell (by dsimp only; omega) _).setCell (by dsimp only; omega) _).setCell (by dsimp only; omega) _).setCell (by dsimp only; omega) _).setCell (by dsimp only; omega) _).setCell (by dsimp only; omega) _).setCell (by dsimp only; omega) _).setCell (by dsimp only; omega) _).drew, by rw [HX.out]; have := HN.out; simp; omega⟩
  rcases e123 : ((c.toNat : Int) == 123) with _ | _
  rotate_left
  · clear hp
    clear hd h2 hsl hX f4 hk hW4 HCL
    go_enter Tryz.func60, Tryz.ntmps60
    go_wp2_with fail
    change Calls Tryz.prog _ _ (four w a) _
    rw [HW.out]
    refine (q1.out _).mono ?_
    rintro e x1 ⟨rfl, rfl⟩
    go_wp2_with fail
    refine (q2.out _).mono ?_
    rintro e x2 ⟨rfl, rfl⟩
    go_wp2_with fail
    obtain ⟨lt, l0, l1, l2, a0, a1, a2, a3, a4, a5, b0, b1, c0, c1, c2, c3, c4, c5, d0, d1, za, zb, zc, zd⟩ := HF.out.cells
    refine (q3.out _).mono ?_
    rintro e x3 ⟨rfl, rfl⟩
    go_wp2_with fail
    go_region
    go_wp2_with fail
    refine bodyPost_ret (v := .tuple #[.agg #[.int .i64 4, .string (str [c]), .int .i64 0, .int .i64 a, .bool false, .bool false], .int .i64 (N : Int), .agg #[.int .i64 0, .int .i64 0]]) (by simp [results, Tryz.results60, go_sem, a0, a1, a2, a3, a4, a5, b0, b1]) rfl ?_
    exact ⟨_, _, _, _, _, _, _, rfl, by first | exact ((((((((((HK.out.setCell (by dsimp only; omega) _).setCell (by dsimp only; omega) _).setCell (by dsimp only; omega) _).setCell (by dsimp only; omega) _).setCell (by dsimp only; omega) _).setCell (by dsimp only; omega) _).setCell (by dsimp only; omega) _).setCell (by dsimp only; omega) _).setCell (by dsimp only; omega) _).setCell (by dsimp only; omega) _).drew, by rw [HX.out]; have := HN.out; simp; omega⟩
  rcases e125 : ((c.toNat : Int) == 125) with _ | _
  rotate_left
  · clear hp
    clear hd h2 hsl hX f4 hk hW4 HCL
    go_enter Tryz.func60, Tryz.ntmps60
    go_wp2_with fail
    change Calls Tryz.prog _ _ (four w a) _
    rw [HW.out]
    refine (q1.out _).mono ?_
    rintro e x1 ⟨rfl, rfl⟩
    go_wp2_with fail
    refine (q2.out _).mono ?_
    rintro e x2 ⟨rfl, rfl⟩
    go_wp2_with fail
    obtain ⟨lt, l0, l1, l2, a0, a1, a2, a3, a4, a5, b0, b1, c0, c1, c2, c3, c4, c5, d0, d1, za, zb, zc, zd⟩ := HF.out.cells
    refine (q3.out _).mono ?_
    rintro e x3 ⟨rfl, rfl⟩
    go_wp2_with fail
    go_region
    go_wp2_with fail
    refine bodyPost_ret (v := .tuple #[.agg #[.int .i64 4, .string (str [c]), .int .i64 0, .int .i64 a, .bool false, .bool false], .int .i64 (N : Int), .agg #[.int .i64 0, .int .i64 0]]) (by simp [results, Tryz.results60, go_sem, a0, a1, a2, a3, a4, a5, b0, b1]) rfl ?_
    exact ⟨_, _, _, _, _, _, _, rfl, by first | exact ((((((((((HK.out.setCell (by dsimp only; omega) _).setCell (by dsimp only; omega) _).setCell (by dsimp only; omega) _).setCell (by dsimp only; omega) _).setCell (by dsimp only; omega) _).setCell (by dsimp only; omega) _).setCell (by dsimp only; omega) _).setCell (by dsimp only; omega) _).setCell (by dsimp only; omega) _).setCell (by dsimp only; omega) _).drew, by rw [HX.out]; have := HN.out; simp; omega⟩
  rcases e44 : ((c.toNat : Int) == 44) with _ | _
  rotate_left
  · clear hp
    clear hd h2 hsl hX f4 hk hW4 HCL
    go_enter Tryz.func60, Tryz.ntmps60
    go_wp2_with fail
    change Calls Tryz.prog _ _ (four w a) _
    rw [HW.out]
    refine (q1.out _).mono ?_
    rintro e x1 ⟨rfl, rfl⟩
    go_wp2_with fail
    refine (q2.out _).mono ?_
    rintro e x2 ⟨rfl, rfl⟩
    go_wp2_with fail
    obtain ⟨lt, l0, l1, l2, a0, a1, a2, a3, a4, a5, b0, b1, c0, c1, c2, c3, c4, c5, d0, d1, za, zb, zc, zd⟩ := HF.out.cells
    refine (q3.out _).mono ?_
    rintro e x3 ⟨rfl, rfl⟩
    go_wp2_with fail
    go_region
    go_wp2_with fail
    refine bodyPost_ret (v := .tuple #[.agg #[.int .i64 4, .string (str [c]), .int .i64 0, .int .i64 a, .bool false, .bool false], .int .i64 (N : Int), .agg #[.int .i64 0, .int .i64 0]]) (by simp [results, Tryz.results60, go_sem, a0, a1, a2, a3, a4, a5, b0, b1]) rfl ?_
    exact ⟨_, _, _, _, _, _, _, rfl, by first | exact ((((((((((HK.out.setCell (by dsimp only; omega) _).setCell (by dsimp only; omega) _).setCell (by dsimp only; omega) _).setCell (by dsimp only; omega) _).setCell (by dsimp only; omega) _).setCell (by dsimp only; omega) _).setCell (by dsimp only; omega) _).setCell (by dsimp only; omega) _).setCell (by dsimp only; omega) _).setCell (by dsimp only; omega) _).drew, by rw [HX.out]; have := HN.out; simp; omega⟩
  rcases e124 : ((c.toNat : Int) == 124) with _ | _
  rotate_left
  · clear hp
    clear hd h2 hsl hX f4 hk hW4 HCL
    go_enter Tryz.func60, Tryz.ntmps60
    go_wp2_with fail
    change Calls Tryz.prog _ _ (four w a) _
    rw [HW.out]
    refine (q1.out _).mono ?_
    rintro e x1 ⟨rfl, rfl⟩
    go_wp2_with fail
    refine (q2.out _).mono ?_
    rintro e x2 ⟨rfl, rfl⟩
    go_wp2_with fail
    obtain ⟨lt, l0, l1, l2, a0, a1, a2, a3, a4, a5, b0, b1, c0, c1, c2, c3, c4, c5, d0, d1, za, zb, zc, zd⟩ := HF.out.cells
    refine (q3.out _).mono ?_
    rintro e x3 ⟨rfl, rfl⟩
    go_wp2_with fail
    go_region
    go_wp2_with fail
    refine bodyPost_ret (v := .tuple #[.agg #[.int .i64 4, .string (str [c]), .int .i64 0, .int .i64 a, .bool false, .bool false], .int .i64 (N : Int), .agg #[.int .i64 0, .int .i64 0]]) (by simp [results, Tryz.results60, go_sem, a0, a1, a2, a3, a4, a5, b0, b1]) rfl ?_
    exact ⟨_, _, _, _, _, _, _, rfl, by first | exact ((((((((((HK.out.setCell (by dsimp only; omega) _).setCell (by dsimp only; omega) _).setCell (by dsimp only; omega) _).setCell (by dsimp only; omega) _).setCell (by dsimp only; omega) _).setCell (by dsimp only; omega) _).setCell (by dsimp only; omega) _).setCell (by dsimp only; omega) _).setCell (by dsimp only; omega) _).setCell (by dsimp only; omega) _).drew, by rw [HX.out]; have := HN.out; simp; omega⟩
  simp [e40, e41, e91, e93, e123, e125, e44, e124] at hp
end Go.Proofs.YtfkbbbjicaedmaaGreatDoor
namespace Go.Proofs.YtfkbbbjicaedmaaGreatDoor
open Go.RowKit Go.Shelf Go.Maps
set_option linter.unusedVariables false
set_option linter.unusedSimpArgs false
set_option maxRecDepth 1000000 in
set_option maxHeartbeats 16000000 in
theorem rToken_solo (L : List UInt8) (a : Nat) (hl : L.length ≤ 16384) {c : UInt8} {r : List UInt8} (hd : L.drop a = c :: r) (h1b : smallB c = false) (h2b : capB c = false) (h3b : digB c = false) (h4b : punctB c = false) (h5b : (c == 33 || c == 59) = true) (w : World) : Calls Tryz.prog 60 #[.string (str L), .int .i64 a] w (TokP a (rtokL a (c :: r)) w) := by
  have hs := str_size L
  obtain ⟨h1, h2, HG0⟩ := str_getAt3 hd
  have HG := Lib.hid HG0
  clear HG0
  have q1 := Lib.hid (fun W => rSmall_any c W)
  rw [h1b] at q1
  unfold byteV at q1
  have q2 := Lib.hid (fun W => rCapital_any c W)
  rw [h2b] at q2
  unfold byteV at q2
  have q3 := Lib.hid (fun W => rDigit_any c W)
  rw [h3b] at q3
  unfold byteV at q3
  have HX : Hid (rtokL a (c :: r) = .good ⟨1, [c], 0, false⟩ (a + 1) r) := Lib.hid (by unfold rtokL; simp only [h1b, h2b, h3b, h4b, h5b, if_true, Bool.false_eq_true, if_false]; simp [oneL])
  have hlen := congrArg List.length hd
  rw [List.length_drop] at hlen
  simp only [List.length_cons] at hlen
  obtain ⟨N, hN⟩ : ∃ N : Nat, N = a + 1 := ⟨_, rfl⟩
  have htk := take_str L a N
  rw [hd, show N - a = 1 by omega] at htk
  have hNi : (a : Int) + 1 = (N : Int) := by omega
  have h5 : (N : Int) ≤ (L.length : Int) := by omega
  have haN : (a : Int) ≤ (N : Int) := by omega
  have HN := Lib.hid hN
  clear hN
  obtain ⟨e40, e41, e91, e93, e123, e125, e44, e124⟩ := punct_no h4b
  obtain ⟨s, hsl⟩ : ∃ s, str L = s := ⟨_, rfl⟩
  rw [hsl] at hs htk HG ⊢
  obtain ⟨hks, hsk⟩ := HG.out
  have HCL := Lib.hid trivial
  obtain ⟨X, hX⟩ : ∃ X, rtokL a (c :: r) = X := ⟨_, rfl⟩
  rw [hX] at HX ⊢
  obtain ⟨f4, hz, hk⟩ := four_is w a
  obtain ⟨W4, hW4⟩ : ∃ W4, four w a = W4 := ⟨_, rfl⟩
  rw [hW4] at f4 hz hk
  have HW := Lib.hid hW4
  have HF := Lib.hid f4
  have HK := Lib.hid hk
  rw [eqInt c 33, eqInt c 59] at h5b
  change (((c.toNat : Int) == 33) || ((c.toNat : Int) == 59)) = true at h5b
  rcases e33 : ((c.toNat : Int) == 33) with _ | _
  rotate_left
  · clear h5b
    clear hd h2 hsl hX f4 hk hW4 HCL
    go_enter Tryz.func60, Tryz.ntmps60
    go_wp2_with fail
    change Calls Tryz.prog _ _ (four w a) _
    rw [HW.out]
    refine (q1.out _).mono ?_
    rintro e x1 ⟨rfl, rfl⟩
    go_wp2_with fail
    refine (q2.out _).mono ?_
    rintro e x2 ⟨rfl, rfl⟩
    go_wp2_with fail
    obtain ⟨lt, l0, l1, l2, a0, a1, a2, a3, a4, a5, b0, b1, c0, c1, c2, c3, c4, c5, d0, d1, za, zb, zc, zd⟩ := HF.out.cells
    refine (q3.out _).mono ?_
    rintro e x3 ⟨rfl, rfl⟩
    go_wp2_with fail
    go_region
    go_wp2_with fail
    refine bodyPost_ret (v := .tuple #[.agg #[.int .i64 1, .string (str [c]), .int .i64 0, .int .i64 a, .bool false, .bool false], .int .i64 (N : Int), .agg #[.int .i64 0, .int .i64 0]]) (by simp [results, Tryz.results60, go_sem, a0, a1, a2, a3, a4, a5, b0, b1]) rfl ?_
    exact ⟨_, _, _, _, _, _, _, rfl, by first | exact (((((((((HK.out.setCell (by dsimp only; omega) _).setCell (by dsimp only; omega) _).setCell (by dsimp only; omega) _).setCell (by dsimp only; omega) _).setCell (by dsimp only; omega) _).setCell (by dsimp only; omega) _).setCell (by dsimp only; omega) _).setCell (by dsimp only; omega) _).setCell (by dsimp only; omega) _).drew, by rw [HX.out]; have := HN.out; simp; omega⟩
  · have e59 : ((c.toNat : Int) == 59) = true := by rw [e33] at h5b; simpa using h5b
    clear h5b
    clear hd h2 hsl hX f4 hk hW4 HCL
    go_enter Tryz.func60, Tryz.ntmps60
    go_wp2_with fail
    change Calls Tryz.prog _ _ (four w a) _
    rw [HW.out]
    refine (q1.out _).mono ?_
    rintro e x1 ⟨rfl, rfl⟩
    go_wp2_with fail
    refine (q2.out _).mono ?_
    rintro e x2 ⟨rfl, rfl⟩
    go_wp2_with fail
    obtain ⟨lt, l0, l1, l2, a0, a1, a2, a3, a4, a5, b0, b1, c0, c1, c2, c3, c4, c5, d0, d1, za, zb, zc, zd⟩ := HF.out.cells
    refine (q3.out _).mono ?_
    rintro e x3 ⟨rfl, rfl⟩
    go_wp2_with fail
    go_region
    go_wp2_with fail
    refine bodyPost_ret (v := .tuple #[.agg #[.int .i64 1, .string (str [c]), .int .i64 0, .int .i64 a, .bool false, .bool false], .int .i64 (N : Int), .agg #[.int .i64 0, .int .i64 0]]) (by simp [results, Tryz.results60, go_sem, a0, a1, a2, a3, a4, a5, b0, b1]) rfl ?_
    exact ⟨_, _, _, _, _, _, _, rfl, by first | exact (((((((((HK.out.setCell (by dsimp only; omega) _).setCell (by dsimp only; omega) _).setCell (by dsimp only; omega) _).setCell (by dsimp only; omega) _).setCell (by dsimp only; omega) _).setCell (by dsimp only; omega) _).setCell (by dsimp only; omega) _).setCell (by dsimp only; omega) _).setCell (by dsimp only; omega) _).drew, by rw [HX.out]; have := HN.out; simp; omega⟩
set_option maxRecDepth 1000000 in
set_option maxHeartbeats 16000000 in
theorem rToken_quoted (L : List UInt8) (a : Nat) (hl : L.length ≤ 16384) {c : UInt8} {r : List UInt8} (hd : L.drop a = c :: r) (h1b : smallB c = false) (h2b : capB c = false) (h3b : digB c = false) (h4b : punctB c = false) (h5b : (c == 33 || c == 59) = false) (h6b : (c == 39) = true) (w : World) : Calls Tryz.prog 60 #[.string (str L), .int .i64 a] w (TokP a (rtokL a (c :: r)) w) := by
  have hs := str_size L
  obtain ⟨h1, h2, HG0⟩ := str_getAt3 hd
  have HG := Lib.hid HG0
  clear HG0
  have q1 := Lib.hid (fun W => rSmall_any c W)
  rw [h1b] at q1
  unfold byteV at q1
  have q2 := Lib.hid (fun W => rCapital_any c W)
  rw [h2b] at q2
  unfold byteV at q2
  have q3 := Lib.hid (fun W => rDigit_any c W)
  rw [h3b] at q3
  unfold byteV at q3
  have HX : Hid (rtokL a (c :: r) = (match quotL a (a + 1) (L.drop (a + 1)) with | .bad e p => .bad e p | .good s n r => .good ⟨1, s, 0, true⟩ n r)) := Lib.hid (by rw [h2]; unfold rtokL; simp only [h1b, h2b, h3b, h4b, h5b, h6b, if_true, Bool.false_eq_true, if_false]; rfl)
  have qQ := Lib.hid (fun W => rQuoted_any L a hl h1 W)
  have hc39 : c = 39 := by simpa using h6b
  have e39 : ((c.toNat : Int) == 39) = true := by rw [hc39]; rfl
  have hlen := congrArg List.length hd
  rw [List.length_drop] at hlen
  simp only [List.length_cons] at hlen
  obtain ⟨e40, e41, e91, e93, e123, e125, e44, e124⟩ := punct_no h4b
  have hs2 := solo_no h5b
  obtain ⟨e33, e59⟩ := hs2
  obtain ⟨s, hsl⟩ : ∃ s, str L = s := ⟨_, rfl⟩
  rw [hsl] at hs HG qQ ⊢
  obtain ⟨hks, hsk⟩ := HG.out
  obtain ⟨Y, hY⟩ : ∃ Y, quotL a (a + 1) (L.drop (a + 1)) = Y := ⟨_, rfl⟩
  have HNZ := Lib.hid (fun c' q' (h : Y = .bad c' q') => quot_bad_code a (a + 1) (L.drop (a + 1)) (hY.trans h))
  rw [hY] at qQ HX
  obtain ⟨X, hX⟩ : ∃ X, rtokL a (c :: r) = X := ⟨_, rfl⟩
  rw [hX] at HX ⊢
  obtain ⟨f4, hz, hk⟩ := four_is w a
  obtain ⟨W4, hW4⟩ : ∃ W4, four w a = W4 := ⟨_, rfl⟩
  rw [hW4] at f4 hz hk
  have HW := Lib.hid hW4
  have HF := Lib.hid f4
  have HK := Lib.hid hk
  clear hd h2 hsl hX f4 hk hW4 hY hc39 h6b h5b
  go_enter Tryz.func60, Tryz.ntmps60
  go_wp2_with fail
  change Calls Tryz.prog _ _ (four w a) _
  rw [HW.out]
  refine (q1.out _).mono ?_
  rintro e x1 ⟨rfl, rfl⟩
  go_wp2_with fail
  refine (q2.out _).mono ?_
  rintro e x2 ⟨rfl, rfl⟩
  go_wp2_with fail
  refine (q3.out _).mono ?_
  rintro e x3 ⟨rfl, rfl⟩
  go_wp2_with fail
  have hq := qQ.out
  clear qQ
  rcases Y with ⟨c', q'⟩ | ⟨nm, m, q'⟩
  · have hc0 := HNZ.out c' q' rfl
    refine (hq _).mono ?_
    rintro e w2 ⟨rfl, hk2⟩
    have Fw2 := HF.out.keep hk2 (by show _ < _; have := HF.out.lt; omega) (by show _ < _; have := HF.out.lt; omega) (by show _ < _; have := HF.out.lt; omega) (by show _ < _; have := HF.out.lt; omega)
    have HKw2 := Lib.hid (HK.out.trans (hk2.less fun i (hi : i < w.heap.size) => by show _ < _; have := HF.out.lt; omega))
    have HFw2 := Lib.hid Fw2
    clear hk2 Fw2 hq
    obtain ⟨lt, l0, l1, l2, a0, a1, a2, a3, a4, a5, b0, b1, c0, c1, c2, c3, c4, c5, d0, d1, za, zb, zc, zd⟩ := HFw2.out.cells
    unfold QtR
    go_wp2_with fail
    have HF6 := Lib.hid (((HFw2.out.quoted true).text ⟨#[]⟩).alloc (.cells #[.int .i64 (c' : Int), .int .i64 (q' : Int)] 71))
    have HK6 := Lib.hid (((HKw2.out.setCell (p := ⟨w.heap.size + 1 + 1, 4, none⟩) (by dsimp only; omega) (.bool true)).setCell (p := ⟨w.heap.size + 1 + 1, 1, none⟩) (by dsimp only; omega) (.string ⟨#[]⟩)).alloc (.cells #[.int .i64 (c' : Int), .int .i64 (q' : Int)] 71))
    have HG6 := Lib.hid (Blk.new ((w2.setCell ⟨w.heap.size + 1 + 1, 4, none⟩ (.bool true)).setCell ⟨w.heap.size + 1 + 1, 1, none⟩ (.string ⟨#[]⟩)) 71 #[.int .i64 (c' : Int), .int .i64 (q' : Int)])
    have hzz : (((w2.setCell ⟨w.heap.size + 1 + 1, 4, none⟩ (.bool true)).setCell ⟨w.heap.size + 1 + 1, 1, none⟩ (.string ⟨#[]⟩)) : World).heap.size = w2.heap.size := by simp [World.setCell]
    rw [hzz] at HG6
    clear lt l0 l1 l2 a0 a1 a2 a3 a4 a5 b0 b1 c0 c1 c2 c3 c4 c5 d0 d1 za zb zc zd
    generalize (((w2.setCell ⟨w.heap.size + 1 + 1, 4, none⟩ (.bool true)).setCell ⟨w.heap.size + 1 + 1, 1, none⟩ (.string ⟨#[]⟩)).alloc (.cells #[.int .i64 (c' : Int), .int .i64 (q' : Int)] 71)) = W6 at HF6 HK6 HG6 ⊢
    have g0 := HG6.out.cell 0
    have g1 := HG6.out.cell 1
    have g2 := HG6.out.lt
    simp at g0 g1
    have hq1 := HFw2.out.lt
    have n0 : ¬ w2.heap.size = w.heap.size := by omega
    have n1 : ¬ w2.heap.size = w.heap.size + 1 := by omega
    have n2 : ¬ w2.heap.size = w.heap.size + 1 + 1 := by omega
    have m0 : ¬ w.heap.size = w2.heap.size := by omega
    have m1 : ¬ w.heap.size + 1 = w2.heap.size := by omega
    have m2 : ¬ w.heap.size + 1 + 1 = w2.heap.size := by omega
    clear hq1
    obtain ⟨lt, l0, l1, l2, a0, a1, a2, a3, a4, a5, b0, b1, c0, c1, c2, c3, c4, c5, d0, d1, za, zb, zc, zd⟩ := HF6.out.cells
    go_region
    go_wp2_with fail
    refine bodyPost_ret (v := .tuple #[.agg #[.int .i64 1, .string ⟨#[]⟩, .int .i64 0, .int .i64 a, .bool true, .bool false], .int .i64 0, .agg #[.int .i64 (c' : Int), .int .i64 (q' : Int)]]) (by simp [results, Tryz.results60, go_sem, a0, a1, a2, a3, a4, a5, b0, b1]) rfl ?_
    exact ⟨_, [], _, _, _, _, _, rfl, by first | exact ((((((((HK6.out.setCell (by dsimp only; omega) _).setCell (by dsimp only; omega) _).setCell (by dsimp only; omega) _).setCell (by dsimp only; omega) _).setCell (by dsimp only; omega) _).setCell (by dsimp only; omega) _).setCell (by dsimp only; omega) _).setCell (by dsimp only; omega) _).drew, by rw [HX.out]; simp; omega⟩
  · refine (hq _).mono ?_
    rintro e w2 ⟨rfl, hk2⟩
    have Fw2 := HF.out.keep hk2 (by show _ < _; have := HF.out.lt; omega) (by show _ < _; have := HF.out.lt; omega) (by show _ < _; have := HF.out.lt; omega) (by show _ < _; have := HF.out.lt; omega)
    have HKw2 := Lib.hid (HK.out.trans (hk2.less fun i (hi : i < w.heap.size) => by show _ < _; have := HF.out.lt; omega))
    have HFw2 := Lib.hid Fw2
    clear hk2 Fw2 hq
    obtain ⟨lt, l0, l1, l2, a0, a1, a2, a3, a4, a5, b0, b1, c0, c1, c2, c3, c4, c5, d0, d1, za, zb, zc, zd⟩ := HFw2.out.cells
    unfold QtR
    go_wp2_with fail
    have HF6 := Lib.hid (((HFw2.out.quoted true).text (str nm)).alloc (.cells #[.int .i64 0, .int .i64 0] 71))
    have HK6 := Lib.hid (((HKw2.out.setCell (p := ⟨w.heap.size + 1 + 1, 4, none⟩) (by dsimp only; omega) (.bool true)).setCell (p := ⟨w.heap.size + 1 + 1, 1, none⟩) (by dsimp only; omega) (.string (str nm))).alloc (.cells #[.int .i64 0, .int .i64 0] 71))
    have HG6 := Lib.hid (Blk.new ((w2.setCell ⟨w.heap.size + 1 + 1, 4, none⟩ (.bool true)).setCell ⟨w.heap.size + 1 + 1, 1, none⟩ (.string (str nm))) 71 #[.int .i64 0, .int .i64 0])
    have hzz : (((w2.setCell ⟨w.heap.size + 1 + 1, 4, none⟩ (.bool true)).setCell ⟨w.heap.size + 1 + 1, 1, none⟩ (.string (str nm))) : World).heap.size = w2.heap.size := by simp [World.setCell]
    rw [hzz] at HG6
    clear lt l0 l1 l2 a0 a1 a2 a3 a4 a5 b0 b1 c0 c1 c2 c3 c4 c5 d0 d1 za zb zc zd
    generalize (((w2.setCell ⟨w.heap.size + 1 + 1, 4, none⟩ (.bool true)).setCell ⟨w.heap.size + 1 + 1, 1, none⟩ (.string (str nm))).alloc (.cells #[.int .i64 0, .int .i64 0] 71)) = W6 at HF6 HK6 HG6 ⊢
    have g0 := HG6.out.cell 0
    have g1 := HG6.out.cell 1
    have g2 := HG6.out.lt
    simp at g0 g1
    have hq1 := HFw2.out.lt
    have n0 : ¬ w2.heap.size = w.heap.size := by omega
    have n1 : ¬ w2.heap.size = w.heap.size + 1 := by omega
    have n2 : ¬ w2.heap.size = w.heap.size + 1 + 1 := by omega
    have m0 : ¬ w.heap.size = w2.heap.size := by omega
    have m1 : ¬ w.heap.size + 1 = w2.heap.size := by omega
    have m2 : ¬ w.heap.size + 1 + 1 = w2.heap.size := by omega
    clear hq1
    obtain ⟨lt, l0, l1, l2, a0, a1, a2, a3, a4, a5, b0, b1, c0, c1, c2, c3, c4, c5, d0, d1, za, zb, zc, zd⟩ := HF6.out.cells
    go_region
    go_wp2_with fail
    refine bodyPost_ret (v := .tuple #[.agg #[.int .i64 1, .string (str nm), .int .i64 0, .int .i64 a, .bool true, .bool false], .int .i64 (m : Int), .agg #[.int .i64 0, .int .i64 0]]) (by simp [results, Tryz.results60, go_sem, a0, a1, a2, a3, a4, a5, b0, b1]) rfl ?_
    exact ⟨_, _, _, _, _, _, _, rfl, by first | exact ((((((((HK6.out.setCell (by dsimp only; omega) _).setCell (by dsimp only; omega) _).setCell (by dsimp only; omega) _).setCell (by dsimp only; omega) _).setCell (by dsimp only; omega) _).setCell (by dsimp only; omega) _).setCell (by dsimp only; omega) _).setCell (by dsimp only; omega) _).drew, by rw [HX.out]; simp⟩
set_option maxRecDepth 1000000 in
set_option maxHeartbeats 16000000 in
theorem rToken_stop (L : List UInt8) (a : Nat) (hl : L.length ≤ 16384) {c : UInt8} {r : List UInt8} (hd : L.drop a = c :: r) (h1b : smallB c = false) (h2b : capB c = false) (h3b : digB c = false) (h4b : punctB c = false) (h5b : (c == 33 || c == 59) = false) (h6b : (c == 39) = false) (h7b : stopB (c :: r) = true) (w : World) : Calls Tryz.prog 60 #[.string (str L), .int .i64 a] w (TokP a (rtokL a (c :: r)) w) := by
  have hs := str_size L
  obtain ⟨h1, h2, HG0⟩ := str_getAt3 hd
  have HG := Lib.hid HG0
  clear HG0
  have q1 := Lib.hid (fun W => rSmall_any c W)
  rw [h1b] at q1
  unfold byteV at q1
  have q2 := Lib.hid (fun W => rCapital_any c W)
  rw [h2b] at q2
  unfold byteV at q2
  have q3 := Lib.hid (fun W => rDigit_any c W)
  rw [h3b] at q3
  unfold byteV at q3
  have HX : Hid (rtokL a (c :: r) = .good ⟨5, [c], 0, false⟩ (a + 1) r) := Lib.hid (by unfold rtokL; simp only [h1b, h2b, h3b, h4b, h5b, h6b, h7b, if_true, Bool.false_eq_true, if_false]; simp [oneL])
  have q4 := Lib.hid (fun W => stop_any L a hl hd W)
  rw [h7b] at q4
  have hlen := congrArg List.length hd
  rw [List.length_drop] at hlen
  simp only [List.length_cons] at hlen
  obtain ⟨N, hN⟩ : ∃ N : Nat, N = a + 1 := ⟨_, rfl⟩
  have htk := take_str L a N
  rw [hd, show N - a = 1 by omega] at htk
  have hNi : (a : Int) + 1 = (N : Int) := by omega
  have h5 : (N : Int) ≤ (L.length : Int) := by omega
  have haN : (a : Int) ≤ (N : Int) := by omega
  have HN := Lib.hid hN
  clear hN
  obtain ⟨e40, e41, e91, e93, e123, e125, e44, e124⟩ := punct_no h4b
  have hs2 := solo_no h5b
  obtain ⟨e33, e59⟩ := hs2
  have e39 : ((c.toNat : Int) == 39) = false := by rw [eqInt c 39] at h6b; exact h6b
  obtain ⟨s, hsl⟩ : ∃ s, str L = s := ⟨_, rfl⟩
  rw [hsl] at hs htk HG q4 ⊢
  obtain ⟨hks, hsk⟩ := HG.out
  obtain ⟨X, hX⟩ : ∃ X, rtokL a (c :: r) = X := ⟨_, rfl⟩
  rw [hX] at HX ⊢
  obtain ⟨f4, hz, hk⟩ := four_is w a
  obtain ⟨W4, hW4⟩ : ∃ W4, four w a = W4 := ⟨_, rfl⟩
  rw [hW4] at f4 hz hk
  have HW := Lib.hid hW4
  have HF := Lib.hid f4
  have HK := Lib.hid hk
  clear hd h2 hsl hX f4 hk hW4 h5b h6b
  go_enter Tryz.func60, Tryz.ntmps60
  go_wp2_with fail
  change Calls Tryz.prog _ _ (four w a) _
  rw [HW.out]
  refine (q1.out _).mono ?_
  rintro e x1 ⟨rfl, rfl⟩
  go_wp2_with fail
  refine (q2.out _).mono ?_
  rintro e x2 ⟨rfl, rfl⟩
  go_wp2_with fail
  refine (q3.out _).mono ?_
  rintro e x3 ⟨rfl, rfl⟩
  go_wp2_with fail
  obtain ⟨lt, l0, l1, l2, a0, a1, a2, a3, a4, a5, b0, b1, c0, c1, c2, c3, c4, c5, d0, d1, za, zb, zc, zd⟩ := HF.out.cells
  refine (q4.out _).mono ?_
  rintro e x4 ⟨rfl, rfl⟩
  go_wp2_with fail
  go_region
  go_wp2_with fail
  refine bodyPost_ret (v := .tuple #[.agg #[.int .i64 5, .string (str [c]), .int .i64 0, .int .i64 a, .bool false, .bool false], .int .i64 (N : Int), .agg #[.int .i64 0, .int .i64 0]]) (by simp [results, Tryz.results60, go_sem, a0, a1, a2, a3, a4, a5, b0, b1]) rfl ?_
  exact ⟨_, _, _, _, _, _, _, rfl, by first | exact ((((((((((HK.out.setCell (by dsimp only; omega) _).setCell (by dsimp only; omega) _).setCell (by dsimp only; omega) _).setCell (by dsimp only; omega) _).setCell (by dsimp only; omega) _).setCell (by dsimp only; omega) _).setCell (by dsimp only; omega) _).setCell (by dsimp only; omega) _).setCell (by dsimp only; omega) _).setCell (by dsimp only; omega) _).drew, by rw [HX.out]; have := HN.out; simp; omega⟩
set_option maxRecDepth 1000000 in
set_option maxHeartbeats 16000000 in
theorem rToken_sign (L : List UInt8) (a : Nat) (hl : L.length ≤ 16384) {c : UInt8} {r : List UInt8} (hd : L.drop a = c :: r) (h1b : smallB c = false) (h2b : capB c = false) (h3b : digB c = false) (h4b : punctB c = false) (h5b : (c == 33 || c == 59) = false) (h6b : (c == 39) = false) (h7b : stopB (c :: r) = false) (h8b : signB c = true) (w : World) : Calls Tryz.prog 60 #[.string (str L), .int .i64 a] w (TokP a (rtokL a (c :: r)) w) := by
  have hs := str_size L
  obtain ⟨h1, h2, HG0⟩ := str_getAt3 hd
  have HG := Lib.hid HG0
  clear HG0
  have q1 := Lib.hid (fun W => rSmall_any c W)
  rw [h1b] at q1
  unfold byteV at q1
  have q2 := Lib.hid (fun W => rCapital_any c W)
  rw [h2b] at q2
  unfold byteV at q2
  have q3 := Lib.hid (fun W => rDigit_any c W)
  rw [h3b] at q3
  unfold byteV at q3
  have HX : Hid (rtokL a (c :: r) = .good ⟨1, (c :: r).take (signLen (c :: r)), 0, false⟩ (a + signLen (c :: r)) ((c :: r).drop (signLen (c :: r)))) := Lib.hid (by unfold rtokL; simp only [h1b, h2b, h3b, h4b, h5b, h6b, h7b, h8b, if_true, Bool.false_eq_true, if_false])
  have q5 := Lib.hid (fun W => rSign_any c W)
  rw [h8b] at q5
  unfold byteV at q5
  have qS := Lib.hid (fun W => rSigns_any L a hl (by omega) W)
  rw [hd] at qS
  have hle := signLen_le (c :: r)
  have q4 := Lib.hid (fun W => stop_any L a hl hd W)
  rw [h7b] at q4
  have hlen := congrArg List.length hd
  rw [List.length_drop] at hlen
  simp only [List.length_cons] at hlen
  have hlL : a + signLen (c :: r) ≤ L.length := by simp only [List.length_cons] at hle; omega
  have htk := take_str L a (a + signLen (c :: r))
  rw [hd, show a + signLen (c :: r) - a = signLen (c :: r) by omega] at htk
  have haN : a ≤ a + signLen (c :: r) := by omega
  obtain ⟨e40, e41, e91, e93, e123, e125, e44, e124⟩ := punct_no h4b
  have hs2 := solo_no h5b
  obtain ⟨e33, e59⟩ := hs2
  have e39 : ((c.toNat : Int) == 39) = false := by rw [eqInt c 39] at h6b; exact h6b
  obtain ⟨s, hsl⟩ : ∃ s, str L = s := ⟨_, rfl⟩
  rw [hsl] at hs htk HG qS q4 ⊢
  obtain ⟨hks, hsk⟩ := HG.out
  obtain ⟨tx, htx⟩ : ∃ tx, (c :: r).take (signLen (c :: r)) = tx := ⟨_, rfl⟩
  rw [htx] at htk HX
  obtain ⟨n, hn⟩ : ∃ n, a + signLen (c :: r) = n := ⟨_, rfl⟩
  rw [hn] at htk qS hlL haN HX
  have HTK := Lib.hid htk
  obtain ⟨X, hX⟩ : ∃ X, rtokL a (c :: r) = X := ⟨_, rfl⟩
  rw [hX] at HX ⊢
  obtain ⟨f4, hz, hk⟩ := four_is w a
  obtain ⟨W4, hW4⟩ : ∃ W4, four w a = W4 := ⟨_, rfl⟩
  rw [hW4] at f4 hz hk
  have HW := Lib.hid hW4
  have HF := Lib.hid f4
  have HK := Lib.hid hk
  clear hd h2 hsl hX f4 hk hW4 h5b h6b htx hn hle htk
  go_enter Tryz.func60, Tryz.ntmps60
  go_wp2_with fail
  change Calls Tryz.prog _ _ (four w a) _
  rw [HW.out]
  refine (q1.out _).mono ?_
  rintro e x1 ⟨rfl, rfl⟩
  go_wp2_with fail
  refine (q2.out _).mono ?_
  rintro e x2 ⟨rfl, rfl⟩
  go_wp2_with fail
  refine (q3.out _).mono ?_
  rintro e x3 ⟨rfl, rfl⟩
  go_wp2_with fail
  refine (q4.out _).mono ?_
  rintro e x4 ⟨rfl, rfl⟩
  go_wp2_with fail
  refine (q5.out _).mono ?_
  rintro e w5 ⟨rfl, hk2⟩
  have Fw5 := HF.out.keep hk2 (by show _ < _; have := HF.out.lt; omega) (by show _ < _; have := HF.out.lt; omega) (by show _ < _; have := HF.out.lt; omega) (by show _ < _; have := HF.out.lt; omega)
  have HKw5 := Lib.hid (HK.out.trans (hk2.less fun i (hi : i < w.heap.size) => by show _ < _; have := HF.out.lt; omega))
  have hzw5 := hk2.size
  have HFw5 := Lib.hid Fw5
  clear hk2 Fw5
  go_wp2_with fail
  refine (qS.out _).mono ?_
  rintro e w2 ⟨rfl, hk2⟩
  have Fw2 := HFw5.out.keep hk2 (by show _ < _; have := HFw5.out.lt; omega) (by show _ < _; have := HFw5.out.lt; omega) (by show _ < _; have := HFw5.out.lt; omega) (by show _ < _; have := HFw5.out.lt; omega)
  have HKw2 := Lib.hid (HKw5.out.trans (hk2.less fun i (hi : i < w.heap.size) => by show _ < _; have := HFw5.out.lt; omega))
  have hzw2 := hk2.size
  have HFw2 := Lib.hid Fw2
  clear hk2 Fw2
  obtain ⟨lt, l0, l1, l2, a0, a1, a2, a3, a4, a5, b0, b1, c0, c1, c2, c3, c4, c5, d0, d1, za, zb, zc, zd⟩ := HFw2.out.cells
  have htk := HTK.out
  go_wp2_with fail
  go_region
  go_wp2_with fail
  refine bodyPost_ret (v := .tuple #[.agg #[.int .i64 1, .string (str tx), .int .i64 0, .int .i64 a, .bool false, .bool false], .int .i64 n, .agg #[.int .i64 0, .int .i64 0]]) (by simp [results, Tryz.results60, go_sem, a0, a1, a2, a3, a4, a5, b0, b1]) rfl ?_
  exact ⟨_, _, _, _, _, _, _, rfl, by first | exact (((((((((HKw2.out.setCell (by dsimp only; omega) _).setCell (by dsimp only; omega) _).setCell (by dsimp only; omega) _).setCell (by dsimp only; omega) _).setCell (by dsimp only; omega) _).setCell (by dsimp only; omega) _).setCell (by dsimp only; omega) _).setCell (by dsimp only; omega) _).setCell (by dsimp only; omega) _).drew, by rw [HX.out]; simp⟩
set_option maxRecDepth 1000000 in
set_option maxHeartbeats 16000000 in
theorem rToken_none (L : List UInt8) (a : Nat) (hl : L.length ≤ 16384) {c : UInt8} {r : List UInt8} (hd : L.drop a = c :: r) (h1b : smallB c = false) (h2b : capB c = false) (h3b : digB c = false) (h4b : punctB c = false) (h5b : (c == 33 || c == 59) = false) (h6b : (c == 39) = false) (h7b : stopB (c :: r) = false) (h8b : signB c = false) (w : World) : Calls Tryz.prog 60 #[.string (str L), .int .i64 a] w (TokP a (rtokL a (c :: r)) w) := by
  have hs := str_size L
  obtain ⟨h1, h2, HG0⟩ := str_getAt3 hd
  have HG := Lib.hid HG0
  clear HG0
  have q1 := Lib.hid (fun W => rSmall_any c W)
  rw [h1b] at q1
  unfold byteV at q1
  have q2 := Lib.hid (fun W => rCapital_any c W)
  rw [h2b] at q2
  unfold byteV at q2
  have q3 := Lib.hid (fun W => rDigit_any c W)
  rw [h3b] at q3
  unfold byteV at q3
  have HX : Hid (rtokL a (c :: r) = .bad 80 a) := Lib.hid (by unfold rtokL; simp only [h1b, h2b, h3b, h4b, h5b, h6b, h7b, h8b, if_true, Bool.false_eq_true, if_false])
  have q5 := Lib.hid (fun W => rSign_any c W)
  rw [h8b] at q5
  unfold byteV at q5
  have q4 := Lib.hid (fun W => stop_any L a hl hd W)
  rw [h7b] at q4
  have hlen := congrArg List.length hd
  rw [List.length_drop] at hlen
  simp only [List.length_cons] at hlen
  obtain ⟨e40, e41, e91, e93, e123, e125, e44, e124⟩ := punct_no h4b
  have hs2 := solo_no h5b
  obtain ⟨e33, e59⟩ := hs2
  have e39 : ((c.toNat : Int) == 39) = false := by rw [eqInt c 39] at h6b; exact h6b
  obtain ⟨s, hsl⟩ : ∃ s, str L = s := ⟨_, rfl⟩
  rw [hsl] at hs HG q4 ⊢
  obtain ⟨hks, hsk⟩ := HG.out
  obtain ⟨X, hX⟩ : ∃ X, rtokL a (c :: r) = X := ⟨_, rfl⟩
  rw [hX] at HX ⊢
  obtain ⟨f4, hz, hk⟩ := four_is w a
  obtain ⟨W4, hW4⟩ : ∃ W4, four w a = W4 := ⟨_, rfl⟩
  rw [hW4] at f4 hz hk
  have HW := Lib.hid hW4
  have HF := Lib.hid f4
  have HK := Lib.hid hk
  clear hd h2 hsl hX f4 hk hW4 h5b h6b
  go_enter Tryz.func60, Tryz.ntmps60
  go_wp2_with fail
  change Calls Tryz.prog _ _ (four w a) _
  rw [HW.out]
  refine (q1.out _).mono ?_
  rintro e x1 ⟨rfl, rfl⟩
  go_wp2_with fail
  refine (q2.out _).mono ?_
  rintro e x2 ⟨rfl, rfl⟩
  go_wp2_with fail
  refine (q3.out _).mono ?_
  rintro e x3 ⟨rfl, rfl⟩
  go_wp2_with fail
  refine (q4.out _).mono ?_
  rintro e x4 ⟨rfl, rfl⟩
  go_wp2_with fail
  refine (q5.out _).mono ?_
  rintro e w2 ⟨rfl, hk2⟩
  have Fw2 := HF.out.keep hk2 (by show _ < _; have := HF.out.lt; omega) (by show _ < _; have := HF.out.lt; omega) (by show _ < _; have := HF.out.lt; omega) (by show _ < _; have := HF.out.lt; omega)
  have HKw2 := Lib.hid (HK.out.trans (hk2.less fun i (hi : i < w.heap.size) => by show _ < _; have := HF.out.lt; omega))
  have hzw2 := hk2.size
  have HFw2 := Lib.hid Fw2
  clear hk2 Fw2
  obtain ⟨lt, l0, l1, l2, a0, a1, a2, a3, a4, a5, b0, b1, c0, c1, c2, c3, c4, c5, d0, d1, za, zb, zc, zd⟩ := HFw2.out.cells
  go_wp2_with fail
  go_region
  go_wp2_with fail
  refine bodyPost_ret (v := .tuple #[.agg #[.int .i64 1, .string ⟨#[]⟩, .int .i64 0, .int .i64 a, .bool false, .bool false], .int .i64 ((a : Int) + 1), .agg #[.int .i64 80, .int .i64 (a : Int)]]) (by simp [results, Tryz.results60, go_sem, a0, a1, a2, a3, a4, a5, b0, b1]) rfl ?_
  exact ⟨_, [], _, _, _, _, _, rfl, by first | exact ((((((((((HKw2.out.setCell (by dsimp only; omega) _).setCell (by dsimp only; omega) _).setCell (by dsimp only; omega) _).setCell (by dsimp only; omega) _).setCell (by dsimp only; omega) _).setCell (by dsimp only; omega) _).setCell (by dsimp only; omega) _).setCell (by dsimp only; omega) _).setCell (by dsimp only; omega) _).setCell (by dsimp only; omega) _).drew, by rw [HX.out]; simp⟩
theorem rToken_any (L : List UInt8) (a : Nat) (hl : L.length ≤ 16384) {c : UInt8} {r : List UInt8} (hd : L.drop a = c :: r) (w : World) : Calls Tryz.prog 60 #[.string (str L), .int .i64 a] w (TokP a (rtokL a (c :: r)) w) := by
  rcases h1 : smallB c with _ | _
  rotate_left
  · exact rToken_small L a hl hd h1 w
  rcases h2 : capB c with _ | _
  rotate_left
  · exact rToken_cap L a hl hd h1 h2 w
  rcases h3 : digB c with _ | _
  rotate_left
  · exact rToken_digit L a hl hd h1 h2 h3 w
  rcases h4 : punctB c with _ | _
  rotate_left
  · exact rToken_punct L a hl hd h1 h2 h3 h4 w
  rcases h5 : (c == 33 || c == 59) with _ | _
  rotate_left
  · exact rToken_solo L a hl hd h1 h2 h3 h4 h5 w
  rcases h6 : (c == 39) with _ | _
  rotate_left
  · exact rToken_quoted L a hl hd h1 h2 h3 h4 h5 h6 w
  rcases h7 : stopB (c :: r) with _ | _
  rotate_left
  · exact rToken_stop L a hl hd h1 h2 h3 h4 h5 h6 h7 w
  rcases h8 : signB c with _ | _
  rotate_left
  · exact rToken_sign L a hl hd h1 h2 h3 h4 h5 h6 h7 h8 w
  exact rToken_none L a hl hd h1 h2 h3 h4 h5 h6 h7 h8 w
end Go.Proofs.YtfkbbbjicaedmaaGreatDoor
namespace Go.Proofs.YtfkbbbjicaedmaaGreatDoor
open Go.RowKit Go.Shelf Go.Maps
set_option linter.unusedVariables false
set_option linter.unusedSimpArgs false
def RtP (w : World) (x : R (List Tok)) (e : Ending) (w' : World) : Prop :=
  match x with
  | .good ts _ _ => ∃ v, e = .returned (.tuple #[v, .agg #[.int .i64 0, .int .i64 0]]) ∧ ToksAt w' w.heap.size v ts ∧ Keep (· < w.heap.size) w w'
  | .bad _ _ => ∃ c q : Int, c ≠ 0 ∧ e = .returned (.tuple #[.slice none 0 0, .agg #[.int .i64 c, .int .i64 q]]) ∧ Keep (· < w.heap.size) w w'
def RtRel (L : List UInt8) (X : R (List Tok)) (W1 : World) (g : Nat) (v i : Value) (wr : World) : Prop :=
  ∃ (k : Nat) (ts : List Tok), k ≤ L.length ∧ g = L.length + 1 - k ∧ i = .int .i64 k ∧ ToksAt wr W1.heap.size v ts ∧ ts.length ≤ k ∧ after ts (toks k (decide (ts.length = 0)) (L.drop k)) = X ∧ Keep (· < W1.heap.size) W1 wr
theorem rtk_round {W1 w4 w5 : World} {L : List UInt8} {X : R (List Tok)} {k n m : Nat} {ts : List Tok} {t : Tk} {ap : Bool} {v v' : Value} {o1 : Obj} (hap : ap = (decide (ts.length = 0) || decide (k < n))) (hml : m ≤ L.length) (hrow : ToksAt w4 W1.heap.size v ts) (hk : Keep (· < W1.heap.size) W1 w4)
    (hg : (w4.alloc o1).grownBy w5 v.ownBlock) (hown : w5.ownsRow W1.heap.size 75 6 v' (ts.length + 1) (cellsOfToks ts ++ [.int .i64 t.kind, .string (str t.text), .int .i64 t.int, .int .i64 n, .bool t.quoted, .bool ap]))
    (hX : after ts (toks k (decide (ts.length = 0)) (L.drop k)) = X) (hN : after ts (toks k (decide (ts.length = 0)) (L.drop k)) = after (ts ++ [⟨t, n, decide (ts.length = 0) || decide (k < n)⟩]) (toks m false (L.drop m))) (hlen : ts.length ≤ k) (hkm : k < m) : RtRel L X W1 (L.length + 1 - m) v' (.int .i64 m) w5 := by
  have hgr := grown_keepS (World.ownsRow.alloc hrow o1) hg
  have ha : Keep (· < W1.heap.size) w4 (w4.alloc o1) := (Keep.refl _ w4).alloc _
  refine ⟨m, ts ++ [⟨t, n, ap⟩], hml, rfl, rfl, ?_, by simp; omega, ?_, (hk.trans ha).trans hgr⟩
  · unfold ToksAt
    rw [cellsOfToks_snoc, List.length_append]
    exact hown
  · rw [← hX, hN, hap]
    simp
theorem drop_app {α : Type} (p r : List α) : r = (p ++ r).drop p.length := by simp
theorem tok_next {n m : Nat} {l r' : List UInt8} {t : Tk} (hr : remB l = false) (h : tokL n l = .good t m r') : n < m ∧ m ≤ n + l.length ∧ r' = l.drop (m - n) := by
  obtain ⟨p, e1, e2, e3⟩ := tok_split hr h
  have : 0 < p.length := by cases p; exact absurd rfl e3; simp
  subst e2
  refine ⟨by omega, by rw [e1, List.length_append]; omega, ?_⟩
  rw [e1, show n + p.length - n = p.length by omega]
  exact drop_app _ _
theorem skip_le' {k n : Nat} {l r : List UInt8} {u : Unit} (h : skipL k l = .good u n r) : k ≤ n ∧ n ≤ k + l.length ∧ r = l.drop (n - k) := by
  obtain ⟨s, e1, e2⟩ := skip_split k l h
  subst e2
  exact ⟨by omega, by rw [e1, List.length_append]; omega, by rw [e1, show k + s.length - k = s.length by omega]; exact drop_app _ _⟩
set_option maxRecDepth 1000000 in
set_option maxHeartbeats 16000000 in
theorem rTokens_any (L : List UInt8) (w : World) : Calls Tryz.prog 49 #[.string (str L)] w (RtP w (tokens L)) := by
  by_cases hl : L.length ≤ 16384
  rotate_left
  · rw [show tokens L = .bad 2 0 by unfold tokens; rw [if_pos (by omega)]]
    have hs := str_size L
    have h16 : (16384 : Int) < (L.length : Int) := by omega
    have hb := Blk.new w 71 #[.int .i64 0, .int .i64 0]
    have f0 := hb.cell 0
    have f1 := hb.cell 1
    have z0 := hb.frozen 0
    have z1 := hb.frozen 1
    simp at f0 f1
    clear hb
    generalize str L = s at *
    go_enter Tryz.func49, Tryz.ntmps49
    go_wp2_with fail
    refine bodyPost_ret (v := .tuple #[.slice none 0 0, .agg #[.int .i64 2, .int .i64 0]]) (by simp [results, Tryz.results49, go_sem, f0, f1]) rfl ?_
    exact ⟨2, 0, by decide, rfl, (Keep.refl _ w).alloc _⟩
  rw [show tokens L = toks 0 true L by unfold tokens; rw [if_neg (by omega)]]
  obtain ⟨i0, hi0, hz0, hz1, hz2⟩ := info_parts infoTok
  have hs := str_size L
  have h16 : ¬ (16384 : Int) < (L.length : Int) := by omega
  have HSK := Lib.hid (fun k (hk : k ≤ L.length) W => rSkip_any L k hl hk W)
  have HTO := Lib.hid (fun n c r (h : L.drop n = c :: r) W => rToken_any L n hl h W)
  obtain ⟨s, hsl⟩ : ∃ s, str L = s := ⟨_, rfl⟩
  rw [hsl] at hs HSK HTO ⊢
  clear hsl
  obtain ⟨X, hX⟩ : ∃ X, toks 0 true L = X := ⟨_, rfl⟩
  rw [hX]
  obtain ⟨W1, hW1⟩ : ∃ W1, W1 = w.alloc (.cells #[.int .i64 0, .int .i64 0] 71) := ⟨_, rfl⟩
  have hb := Blk.new w 71 #[.int .i64 0, .int .i64 0]
  have hk0 := (Keep.refl (· < w.heap.size) w).alloc (.cells #[.int .i64 0, .int .i64 0] 71)
  have hz0' : (w.alloc (.cells #[.int .i64 0, .int .i64 0] 71)).heap.size = w.heap.size + 1 := by simp
  rw [← hW1] at hb hk0 hz0'
  have hpz : w.heap.size < W1.heap.size := by omega
  have hbe := Blk.new W1 75 #[]
  have HB := Lib.hid hb
  have HK0 := Lib.hid hk0
  have HR : Hid (RtRel L X W1 (L.length + 1) (.slice (some ⟨w.heap.size + 1, 0, none⟩) 0 0) (.int .i64 0) (W1.alloc (.cells #[] 75))) := Lib.hid (by
    rw [← hz0']
    exact ⟨0, [], by omega, rfl, rfl, ⟨rfl, .inr ⟨_, 0, _, rfl, Nat.le_refl _, hbe, Nat.le_refl _, by unfold maxLen; omega, rfl, rfl⟩⟩, by simp, by rw [after_nil, ← hX]; rfl, (Keep.refl _ W1).alloc _⟩)
  have HW := Lib.hid hW1
  clear hX hb hk0 hbe
  go_enter Tryz.func49, Tryz.ntmps49
  go_wp2_with fail
  rw [← HW.out]
  clear hW1
  go_loopg [4, 5] (L.length + 1) (fun g v i wr => RtRel L X W1 g v i wr)
  case atStart => exact HR.out
  case round =>
    clear HR
    obtain ⟨k, ts, hkl, hg, rfl, hrow, htk, hx, hkp⟩ := hrel
    obtain ⟨ad, cp, rfl⟩ := hrow.is
    have HG := Lib.hid hg
    have HX := Lib.hid hx
    have HROW := Lib.hid hrow
    have HK := Lib.hid hkp
    clear hg hx hrow hkp
    have hsk := HSK.out k hkl
    rcases hxs : skipL k (L.drop k) with ⟨c, q⟩ | ⟨u, n, r⟩
    · rw [hxs] at hsk
      have hcz : ¬ (c = 0) := by have := (skip_bad k (L.drop k) hxs).1; omega
      have hcz' : ((c : Int) == 0) = false := beq_eq_false_iff_ne.2 (by omega)
      have HXX := Lib.hid (show R.bad c q = X by rw [← HX.out, toks_eq, hxs]; rfl)
      have HS2 := Lib.hid hsk
      clear hsk hxs
      go_wp2_with fail
      refine (HS2.out _).mono ?_
      rintro e w2 ⟨rfl, hk2⟩
      have HK2 := Lib.hid (HK.out.trans (hk2.less fun i (hi : i < W1.heap.size) => Nat.lt_of_lt_of_le hi HK.out.size))
      have hblk2 := HB.out.keep HK2.out hpz
      have HBL2 := Lib.hid hblk2
      have g0 := hblk2.cell 0
      have g1 := hblk2.cell 1
      have y0 := hblk2.frozen 0
      have y1 := hblk2.frozen 1
      have hpr2 := hblk2.lt
      simp at g0 g1
      clear hk2 hblk2
      unfold SkR
      go_wp2_with fail
      go_region
      go_wp2_with fail
      have qq := (Blk.alloc (Blk.set_ (Blk.set_ HBL2.out 0 (.int .i64 (c : Int))) 1 (.int .i64 (q : Int))) (.cells #[.int .i64 (c : Int), .int .i64 (q : Int)] 71))
      have q0 := qq.cell 0
      have q1 := qq.cell 1
      simp at q0 q1
      refine bodyPost_ret (v := .tuple #[.slice none 0 0, .agg #[.int .i64 (c : Int), .int .i64 (q : Int)]]) (by simp [results, Tryz.results49, go_sem, q0, q1]) rfl ?_
      rw [← HXX.out]
      exact ⟨c, q, by omega, rfl, ((keep_fault hpz HK0.out HK2.out _ _).alloc _).drew⟩
    · rw [hxs] at hsk
      obtain ⟨hkn, hnl, hr⟩ := skip_le' hxs
      rw [List.drop_drop, show k + (n - k) = n by omega] at hr
      rw [List.length_drop] at hnl
      have hnl : n ≤ L.length := by omega
      have HS2 := Lib.hid hsk
      have HSX := Lib.hid hxs
      clear hsk hxs
      go_wp2_with fail
      refine (HS2.out _).mono ?_
      rintro e w2 ⟨rfl, hk2⟩
      have HK2 := Lib.hid (HK.out.trans (hk2.less fun i (hi : i < W1.heap.size) => Nat.lt_of_lt_of_le hi HK.out.size))
      have HROW2 := Lib.hid (HROW.out.keep hk2 (fun g _ hg => hg))
      have hblk2 := HB.out.keep HK2.out hpz
      have HBL2 := Lib.hid hblk2
      have g0 := hblk2.cell 0
      have g1 := hblk2.cell 1
      have y0 := hblk2.frozen 0
      have y1 := hblk2.frozen 1
      have hpr2 := hblk2.lt
      simp at g0 g1
      clear hk2 hblk2
      unfold SkR
      rcases hd : L.drop n with _ | ⟨c, r2⟩
      · have h3 : L.length ≤ n := by simpa using hd
        have h4 : (L.length : Int) ≤ (n : Int) := by omega
        have HXX := Lib.hid (show R.good ts n [] = X by rw [← HX.out, toks_over (by rw [HSX.out, hr, hd])]; simp [after])
        clear hd hr
        go_wp2_with fail
        have qq := (Blk.alloc (Blk.set_ (Blk.set_ HBL2.out 0 (.int .i64 0)) 1 (.int .i64 0)) (.cells #[.int .i64 0, .int .i64 0] 71))
        have q0 := qq.cell 0
        have q1 := qq.cell 1
        simp at q0 q1
        refine bodyPost_ret (v := .tuple #[.slice ad ts.length cp, .agg #[.int .i64 0, .int .i64 0]]) (by simp [results, Tryz.results49, go_sem, q0, q1]) rfl ?_
        rw [← HXX.out]
        have hkf : Keep (· ≠ w.heap.size) w2 (((w2.setCell ⟨w.heap.size, 0, none⟩ (.int .i64 0)).setCell ⟨w.heap.size, 1, none⟩ (.int .i64 0)).alloc (.cells #[.int .i64 0, .int .i64 0] 71)) := (((Keep.refl _ w2).setCell (by simp) _).setCell (by simp) _).alloc _
        exact ⟨_, rfl, (HROW2.out.keep hkf (fun g hg _ => by omega)).base (Nat.le_of_lt hpz), (keep_fault hpz HK0.out HK2.out _ _).alloc _⟩
      · have h4 : ¬ (L.length : Int) ≤ (n : Int) := by have := congrArg List.length hd; simp at this; omega
        have hstop := skip_stop k (L.drop k) (by rw [HSX.out, hr, hd])
        have hrm := hstop.2.2
        have hto := fun W => HTO.out n c r2 hd W
        have htl := tok_lim n (c :: r2)
        have HD := Lib.hid hd
        have HRR := Lib.hid hr
        clear hd hr hstop
        obtain ⟨Y, hY⟩ : ∃ Y, rtokL n (c :: r2) = Y := ⟨_, rfl⟩
        rw [hY] at hto htl
        have HT2 := Lib.hid hto
        have HTL := Lib.hid htl
        have HRM := Lib.hid hrm
        clear hY hto htl hrm
        go_wp2_with fail
        refine (HT2.out _).mono ?_
        rintro e w3 ⟨kk, tx, ii, qd, to, cc, qq, rfl, hk3, hm⟩
        have HKF := Lib.hid (HK2.out.alloc (.cells #[.int .i64 0, .int .i64 0] 71))
        have HK3 := Lib.hid (HKF.out.trans (hk3.less fun i (hi : i < W1.heap.size) => Nat.lt_of_lt_of_le hi HKF.out.size))
        have HROW3 := Lib.hid ((HROW2.out.keep ((Keep.refl (fun _ => True) w2).alloc (.cells #[.int .i64 0, .int .i64 0] 71)) (fun _ _ _ => trivial)).keep hk3 (fun g _ hg => hg))
        have hblk3 := HB.out.keep HK3.out hpz
        have HBL3 := Lib.hid hblk3
        clear hk3 g0 g1 y0 y1 hpr2
        have g0 := hblk3.cell 0
        have g1 := hblk3.cell 1
        have y0 := hblk3.frozen 0
        have y1 := hblk3.frozen 1
        have hpr2 := hblk3.lt
        simp at g0 g1
        clear hblk3
        -- a fault of the token's own
        have wrong : ∀ (c' : Nat) (q' : Nat), limL n Y = .bad c' q' → ∃ c q, X = .bad c q := fun c' q' h => ⟨_, _, by rw [← HX.out, toks_wrong (by rw [HSX.out, HRR.out, HD.out]) (HTL.out.trans h)]; rfl⟩
        have WR := Lib.hid wrong
        clear wrong
        have hsty := str_size tx
        rcases Y with ⟨c', q'⟩ | ⟨t, m, r'⟩
        · obtain ⟨rfl, rfl, hne⟩ := hm
          have hcz' : ((c' : Int) == 0) = false := beq_eq_false_iff_ne.2 (by omega)
          have HWR := Lib.hid (WR.out c' q' rfl)
          generalize str tx = stx at *
          go_wp2_with fail
          go_region
          go_wp2_with fail
          have qq := (Blk.alloc (Blk.alloc (Blk.set_ (Blk.set_ HBL3.out 0 (.int .i64 (c' : Int))) 1 (.int .i64 (q' : Int))) (.cells #[.int .i64 kk, .string stx, .int .i64 ii, .int .i64 n, .bool qd, .bool false] 75)) (.cells #[.int .i64 (c' : Int), .int .i64 (q' : Int)] 71))
          have q0 := qq.cell 0
          have q1 := qq.cell 1
          simp at q0 q1
          refine bodyPost_ret (v := .tuple #[.slice none 0 0, .agg #[.int .i64 (c' : Int), .int .i64 (q' : Int)]]) (by simp [results, Tryz.results49, go_sem, q0, q1]) rfl ?_
          obtain ⟨x1, x2, hXX⟩ := HWR.out
          rw [hXX]
          exact ⟨c', q', by omega, rfl, (((keep_fault hpz HK0.out HK3.out _ _).alloc _).alloc _).drew⟩
        · obtain ⟨rfl, rfl, rfl, rfl, rfl, rfl, rfl⟩ := hm
          by_cases hlong : t.kind ≤ 2 ∧ 64 < t.text.length
          · have hk2 : (t.kind : Int) ≤ 2 := by omega
            have h64 : (64 : Int) < (t.text.length : Int) := by omega
            have HWR := Lib.hid (WR.out 2 n (if_pos hlong))
            generalize str t.text = stx at *
            clear hlong
            go_wp2_with fail
            have qq := (Blk.alloc (Blk.alloc (Blk.set_ (Blk.set_ HBL3.out 0 (.int .i64 2)) 1 (.int .i64 (n : Int))) (.cells #[.int .i64 t.kind, .string stx, .int .i64 t.int, .int .i64 n, .bool t.quoted, .bool false] 75)) (.cells #[.int .i64 0, .int .i64 0] 71))
            have q0 := qq.cell 0
            have q1 := qq.cell 1
            simp at q0 q1
            refine bodyPost_ret (v := .tuple #[.slice none 0 0, .agg #[.int .i64 2, .int .i64 (n : Int)]]) (by simp [results, Tryz.results49, go_sem, q0, q1]) rfl ?_
            obtain ⟨x1, x2, hXX⟩ := HWR.out
            rw [hXX]
            exact ⟨2, n, by decide, rfl, ((keep_fault hpz HK0.out HK3.out _ _).alloc _).alloc _⟩
          · have htk2 : tokL n (c :: r2) = .good t m r' := HTL.out.trans (if_neg hlong)
            have hnx := tok_next HRM.out htk2
            have hdl := congrArg List.length HD.out
            rw [List.length_drop] at hdl
            obtain ⟨hnm, hml, hrr⟩ := hnx
            have hmL : m ≤ L.length := by omega
            have hrr' : r' = L.drop m := by rw [hrr, ← HD.out, List.drop_drop, show n + (m - n) = m by omega]
            have HNX := Lib.hid (show after ts (toks k (decide (ts.length = 0)) (L.drop k)) = after (ts ++ [⟨t, n, decide (ts.length = 0) || decide (k < n)⟩]) (toks m false (L.drop m)) by
              rw [← hrr']; exact toks_next ts (by rw [HSX.out, HRR.out, HD.out]) htk2)
            have hkd : ((t.kind : Int) ≤ 2 ∧ ¬ (64 : Int) < (t.text.length : Int)) ∨ ¬ (t.kind : Int) ≤ 2 := by omega
            obtain ⟨stx, hstx⟩ : ∃ stx, str t.text = stx := ⟨_, rfl⟩
            rw [hstx] at hsty
            rw [hstx]
            have HSTX := Lib.hid hstx
            clear hlong htk2 hrr hrr' hdl hstx WR
            by_cases hlt : k < n
            · have hlt' : ((k : Int) < n) := by omega
              rcases hkd with ⟨hkd1, hkd2⟩ | hkd1
              all_goals
                go_wp2_with (at_builtin; refine wpList_append_own _ rfl _ _ 69 rfl W1.heap.size 75 i0 noTk 6 48 Tryz.underlying69 hi0 hz0 hz1 hz2 rfl (by decide) _ _ _ rfl (World.ownsRow.alloc (World.ownsRow.alloc (World.ownsRow.alloc HROW3.out _) _) _) ⟨w3.heap.size + 1 + 1, 0, none⟩ 1 1 [.int .i64 t.kind, .string stx, .int .i64 t.int, .int .i64 n, .bool t.quoted, .bool true] rfl rfl (cells_new _ _ _ _ (by simp)) (by simp [Value.oneCell']) (by unfold maxLen; omega) (by omega) (by have := HK3.out.size; simp; omega) ?_)
                intro v' w5 hown' hgrow _
                have HREL := Lib.hid (rtk_round (X := X) (k := k) (ap := true) (by simp [hlt]) hmL (World.ownsRow.alloc (World.ownsRow.alloc HROW3.out _) _) ((HK3.out.alloc _).alloc _) hgrow (by rw [HSTX.out, hz0']; exact hown') HX.out HNX.out htk (by omega))
                clear hown' hgrow
                go_wp2_with fail
                go_roundg (L.length + 1 - m)
                case measure => have := HG.out; omega
                case rel => exact HREL.out
            · have hlt' : ¬ ((k : Int) < n) := by omega
              rcases hkd with ⟨hkd1, hkd2⟩ | hkd1
              all_goals
                go_wp2_with (at_builtin; refine wpList_append_own _ rfl _ _ 69 rfl W1.heap.size 75 i0 noTk 6 48 Tryz.underlying69 hi0 hz0 hz1 hz2 rfl (by decide) _ _ _ rfl (World.ownsRow.alloc (World.ownsRow.alloc (World.ownsRow.alloc HROW3.out _) _) _) ⟨w3.heap.size + 1 + 1, 0, none⟩ 1 1 [.int .i64 t.kind, .string stx, .int .i64 t.int, .int .i64 n, .bool t.quoted, .bool ((ts.length : Int) == 0)] rfl rfl (cells_new _ _ _ _ (by simp)) (by simp [Value.oneCell']) (by unfold maxLen; omega) (by omega) (by have := HK3.out.size; simp; omega) ?_)
                intro v' w5 hown' hgrow _
                have HREL := Lib.hid (rtk_round (X := X) (k := k) (ap := ((ts.length : Int) == 0)) (flag_eq hlt) hmL (World.ownsRow.alloc (World.ownsRow.alloc HROW3.out _) _) ((HK3.out.alloc _).alloc _) hgrow (by rw [HSTX.out, hz0']; exact hown') HX.out HNX.out htk (by omega))
                clear hown' hgrow
                go_wp2_with fail
                go_roundg (L.length + 1 - m)
                case measure => have := HG.out; omega
                case rel => exact HREL.out
end Go.Proofs.YtfkbbbjicaedmaaGreatDoor
namespace Go.Proofs.YtfkbbbjicaedmaaGreatDoor
open Go.RowKit Go.Shelf Go.Maps
set_option linter.unusedVariables false
set_option linter.unusedSimpArgs false
set_option maxRecDepth 1000000 in
set_option maxHeartbeats 8000000 in
theorem rBare_any (L : List UInt8) (w : World) : Calls Tryz.prog 40 #[.string (str L)] w fun e w' => e = .returned (.bool (bareC L)) ∧ Keep (· < w.heap.size) w w' := by
  have HT := Lib.hid (fun W => rTokens_any L W)
  have hsl := str_list L
  have HBP := Lib.hid (fun (h : bareC L = true) => bare_plain h)
  obtain ⟨b, hb⟩ : ∃ b, bareC L = b := ⟨_, rfl⟩
  have hbd : b = bareR L (tokens L) := hb.symm
  rw [hb] at HBP ⊢
  obtain ⟨s, hs⟩ : ∃ s, str L = s := ⟨_, rfl⟩
  rw [hs] at HT hsl ⊢
  clear hs hb
  have ht := HT.out w
  rcases hx : tokens L with ⟨c, q⟩ | ⟨ts, n, r⟩
  · rw [hx] at ht hbd
    have HT1 := Lib.hid ht
    obtain rfl : b = false := hbd
    clear ht hx
    go_enter Tryz.func40, Tryz.ntmps40
    go_wp2_with fail
    refine HT1.out.mono ?_
    rintro e w1 ⟨c', q', hcz, rfl, hk1⟩
    have hcz' : (c' == 0) = false := beq_eq_false_iff_ne.2 hcz
    have HK1 := Lib.hid hk1
    clear hk1 HT HT1
    go_wp2_with fail
    go_ret
    exact ⟨rfl, HK1.out.alloc _⟩
  · rw [hx] at ht hbd
    have HT1 := Lib.hid ht
    have HX := Lib.hid hx
    clear ht hx
    go_enter Tryz.func40, Tryz.ntmps40
    go_wp2_with fail
    refine HT1.out.mono ?_
    rintro e w1 ⟨v, rfl, hta, hk1⟩
    have HK1 := Lib.hid hk1
    obtain ⟨a, c, rfl, hc⟩ := hta.sl
    clear hk1 HT HT1 hta
    by_cases h1 : ts.length = 1
    · obtain ⟨t, rfl⟩ := List.length_eq_one_iff.1 h1
      obtain ⟨g, o, rfl, _, hg, d0, d1, d2, d3, d4, d5⟩ := hc 0 t rfl
      have hbt := str_list t.tk.text
      simp only [List.length_cons, List.length_nil]
      simp only [Nat.zero_mul, Nat.add_zero] at d0 d1 d4
      have hbv : b = ((t.tk.kind == 1) && (t.tk.text == L)) := hbd
      have HBV := Lib.hid hbv
      have hqd : b = true → t.tk.quoted = false := fun h => by
        obtain ⟨u, n', r', h7, _, _, hq⟩ := HBP.out h
        rw [HX.out] at h7
        injection h7 with h8
        injection h8 with h9
        rw [h9]; exact hq
      have HQD := Lib.hid hqd
      clear hc h1 hbd hbv hqd d2 d3 d5
      generalize str t.tk.text = s1 at *
      obtain ⟨qd, hqd⟩ : ∃ qd, t.tk.quoted = qd := ⟨_, rfl⟩
      rw [hqd] at d4 HQD
      by_cases hk : t.tk.kind = 1
      · have hk' : ((t.tk.kind : Int) = 1) := by omega
        cases qd
        · go_wp2_with fail
          go_ret
          refine ⟨?_, HK1.out.alloc _⟩
          rw [HBV.out]
          simp [hk]
        · go_wp2_with fail
          go_ret
          refine ⟨?_, HK1.out.alloc _⟩
          have : b = false := by
            cases b
            · rfl
            · exact absurd (HQD.out rfl) (by simp)
          rw [this]; rfl
      · have hk' : ¬ ((t.tk.kind : Int) = 1) := by omega
        go_wp2_with fail
        go_ret
        refine ⟨?_, HK1.out.alloc _⟩
        rw [HBV.out]
        simp [hk]
    · have h1' : ((ts.length : Int) == 1) = false := beq_eq_false_iff_ne.2 (by omega)
      obtain rfl : b = false := by
        rw [hbd]
        rcases ts with _ | ⟨t, _ | ⟨t', ts⟩⟩
        · rfl
        · exact absurd rfl h1
        · rfl
      clear hc hbd
      go_wp2_with fail
      go_ret
      exact ⟨rfl, HK1.out.alloc _⟩
end Go.Proofs.YtfkbbbjicaedmaaGreatDoor
