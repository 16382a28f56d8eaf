/-
  The document's tokens (pythiaref08): a token, in memory: brackets. No condition.
-/
import Derived.Test.YtjaaoljfkbbjpaaGreatDoorRx7
namespace Go.Proofs.YtjaaoljfkbbjpaaGreatDoor
open Go.RowKit Go.Shelf Go.Maps
set_option linter.unusedVariables false
set_option linter.unusedSimpArgs false

set_option maxRecDepth 1000000 in
set_option maxHeartbeats 16000000 in
theorem rToken_punct (L : List UInt8) (a : Nat) (hl : L.length ≤ 16384) {c : UInt8} {r : List UInt8} (hd : L.drop a = c :: r) (h1b : smallB c = false) (h2b : capB c = false) (h3b : digB c = false) (h4b : punctB c = true) (w : World) : Calls Tryz.prog 28 #[.string (str L), .int .i64 a] w (TokP a (rtokL a (c :: r)) w) := by
  have hs := str_size L
  obtain ⟨h1, h2, HG0⟩ := str_getAt3 hd
  have HG := Lib.hid HG0
  clear HG0
  have q1 := Lib.hid (fun W => rSmall_any c W)
  rw [h1b] at q1
  unfold byteV at q1
  have q2 := Lib.hid (fun W => rCapital_any c W)
  rw [h2b] at q2
  unfold byteV at q2
  have q3 := Lib.hid (fun W => rDigit_any c W)
  rw [h3b] at q3
  unfold byteV at q3
  have HX : Hid (rtokL a (c :: r) = .good ⟨4, [c], 0, false⟩ (a + 1) r) := Lib.hid (by unfold rtokL; simp [h1b, h2b, h3b, h4b, oneL])
  have hlen := congrArg List.length hd
  rw [List.length_drop] at hlen
  simp only [List.length_cons] at hlen
  obtain ⟨N, hN⟩ : ∃ N : Nat, N = a + 1 := ⟨_, rfl⟩
  have htk := take_str L a N
  rw [hd, show N - a = 1 by omega] at htk
  have hNi : (a : Int) + 1 = (N : Int) := by omega
  have h5 : (N : Int) ≤ (L.length : Int) := by omega
  have haN : (a : Int) ≤ (N : Int) := by omega
  have HN := Lib.hid hN
  clear hN
  obtain ⟨s, hsl⟩ : ∃ s, str L = s := ⟨_, rfl⟩
  rw [hsl] at hs htk HG ⊢
  obtain ⟨hks, hsk⟩ := HG.out
  have HCL := Lib.hid trivial
  obtain ⟨X, hX⟩ : ∃ X, rtokL a (c :: r) = X := ⟨_, rfl⟩
  rw [hX] at HX ⊢
  obtain ⟨f4, hz, hk⟩ := four_is w a
  obtain ⟨W4, hW4⟩ : ∃ W4, four w a = W4 := ⟨_, rfl⟩
  rw [hW4] at f4 hz hk
  have HW := Lib.hid hW4
  have HF := Lib.hid f4
  have HK := Lib.hid hk
  have hp := punct_int c
  rw [h4b] at hp
  rcases e40 : ((c.toNat : Int) == 40) with _ | _
  rotate_left
  · clear hp
    clear hd h2 hsl hX f4 hk hW4 HCL
    go_enter Tryz.func28, Tryz.ntmps28
    go_wp2_with fail
    change Calls Tryz.prog _ _ (four w a) _
    rw [HW.out]
    refine (q1.out _).mono ?_
    rintro e x1 ⟨rfl, rfl⟩
    go_wp2_with fail
    refine (q2.out _).mono ?_
    rintro e x2 ⟨rfl, rfl⟩
    go_wp2_with fail
    obtain ⟨lt, l0, l1, l2, a0, a1, a2, a3, a4, a5, b0, b1, c0, c1, c2, c3, c4, c5, d0, d1, za, zb, zc, zd⟩ := HF.out.cells
    refine (q3.out _).mono ?_
    rintro e x3 ⟨rfl, rfl⟩
    go_wp2_with fail
    go_region
    go_wp2_with fail
    refine bodyPost_ret (v := .tuple #[.agg #[.int .i64 4, .string (str [c]), .int .i64 0, .int .i64 a, .bool false, .bool false], .int .i64 (N : Int), .agg #[.int .i64 0, .int .i64 0]]) (by simp [results, Tryz.results28, go_sem, a0, a1, a2, a3, a4, a5, b0, b1]) rfl ?_
    exact ⟨_, _, _, _, _, _, _, rfl, by first | exact ((((((((((HK.out.setCell (by dsimp only; omega) _).setCell (by dsimp only; omega) _).setCell (by dsimp only; omega) _).setCell (by dsimp only; omega) _).setCell (by dsimp only; omega) _).setCell (by dsimp only; omega) _).setCell (by dsimp only; omega) _).setCell (by dsimp only; omega) _).setCell (by dsimp only; omega) _).setCell (by dsimp only; omega) _).drew, by rw [HX.out]; have := HN.out; simp; omega⟩
  rcases e41 : ((c.toNat : Int) == 41) with _ | _
  rotate_left
  · clear hp
    clear hd h2 hsl hX f4 hk hW4 HCL
    go_enter Tryz.func28, Tryz.ntmps28
    go_wp2_with fail
    change Calls Tryz.prog _ _ (four w a) _
    rw [HW.out]
    refine (q1.out _).mono ?_
    rintro e x1 ⟨rfl, rfl⟩
    go_wp2_with fail
    refine (q2.out _).mono ?_
    rintro e x2 ⟨rfl, rfl⟩
    go_wp2_with fail
    obtain ⟨lt, l0, l1, l2, a0, a1, a2, a3, a4, a5, b0, b1, c0, c1, c2, c3, c4, c5, d0, d1, za, zb, zc, zd⟩ := HF.out.cells
    refine (q3.out _).mono ?_
    rintro e x3 ⟨rfl, rfl⟩
    go_wp2_with fail
    go_region
    go_wp2_with fail
    refine bodyPost_ret (v := .tuple #[.agg #[.int .i64 4, .string (str [c]), .int .i64 0, .int .i64 a, .bool false, .bool false], .int .i64 (N : Int), .agg #[.int .i64 0, .int .i64 0]]) (by simp [results, Tryz.results28, go_sem, a0, a1, a2, a3, a4, a5, b0, b1]) rfl ?_
    exact ⟨_, _, _, _, _, _, _, rfl, by first | exact ((((((((((HK.out.setCell (by dsimp only; omega) _).setCell (by dsimp only; omega) _).setCell (by dsimp only; omega) _).setCell (by dsimp only; omega) _).setCell (by dsimp only; omega) _).setCell (by dsimp only; omega) _).setCell (by dsimp only; omega) _).setCell (by dsimp only; omega) _).setCell (by dsimp only; omega) _).setCell (by dsimp only; omega) _).drew, by rw [HX.out]; have := HN.out; simp; omega⟩
  rcases e91 : ((c.toNat : Int) == 91) with _ | _
  rotate_left
  · clear hp
    clear hd h2 hsl hX f4 hk hW4 HCL
    go_enter Tryz.func28, Tryz.ntmps28
    go_wp2_with fail
    change Calls Tryz.prog _ _ (four w a) _
    rw [HW.out]
    refine (q1.out _).mono ?_
    rintro e x1 ⟨rfl, rfl⟩
    go_wp2_with fail
    refine (q2.out _).mono ?_
    rintro e x2 ⟨rfl, rfl⟩
    go_wp2_with fail
    obtain ⟨lt, l0, l1, l2, a0, a1, a2, a3, a4, a5, b0, b1, c0, c1, c2, c3, c4, c5, d0, d1, za, zb, zc, zd⟩ := HF.out.cells
    refine (q3.out _).mono ?_
    rintro e x3 ⟨rfl, rfl⟩
    go_wp2_with fail
    go_region
    go_wp2_with fail
    refine bodyPost_ret (v := .tuple #[.agg #[.int .i64 4, .string (str [c]), .int .i64 0, .int .i64 a, .bool false, .bool false], .int .i64 (N : Int), .agg #[.int .i64 0, .int .i64 0]]) (by simp [results, Tryz.results28, go_sem, a0, a1, a2, a3, a4, a5, b0, b1]) rfl ?_
    exact ⟨_, _, _, _, _, _, _, rfl, by first | exact ((((((((((HK.out.setCell (by dsimp only; omega) _).setCell (by dsimp only; omega) _).setCell (by dsimp only; omega) _).setCell (by dsimp only; omega) _).setCell (by dsimp only; omega) _).setCell (by dsimp only; omega) _).setCell (by dsimp only; omega) _).setCell (by dsimp only; omega) _).setCell (by dsimp only; omega) _).setCell (by dsimp only; omega) _).drew, by rw [HX.out]; have := HN.out; simp; omega⟩
  rcases e93 : ((c.toNat : Int) == 93) with _ | _
  rotate_left
  · clear hp
    clear hd h2 hsl hX f4 hk hW4 HCL
    go_enter Tryz.func28, Tryz.ntmps28
    go_wp2_with fail
    change Calls Tryz.prog _ _ (four w a) _
    rw [HW.out]
    refine (q1.out _).mono ?_
    rintro e x1 ⟨rfl, rfl⟩
    go_wp2_with fail
    refine (q2.out _).mono ?_
    rintro e x2 ⟨rfl, rfl⟩
    go_wp2_with fail
    obtain ⟨lt, l0, l1, l2, a0, a1, a2, a3, a4, a5, b0, b1, c0, c1, c2, c3, c4, c5, d0, d1, za, zb, zc, zd⟩ := HF.out.cells
    refine (q3.out _).mono ?_
    rintro e x3 ⟨rfl, rfl⟩
    go_wp2_with fail
    go_region
    go_wp2_with fail
    refine bodyPost_ret (v := .tuple #[.agg #[.int .i64 4, .string (str [c]), .int .i64 0, .int .i64 a, .bool false, .bool false], .int .i64 (N : Int), .agg #[.int .i64 0, .int .i64 0]]) (by simp [results, Tryz.results28, go_sem, a0, a1, a2, a3, a4, a5, b0, b1]) rfl ?_
    exact ⟨_, _, _, _, _, _, _, rfl, by first | exact ((((((((((HK.out.setCell (by dsimp only; omega) _).setCell (by dsimp only; omega) _).setCell (by dsimp only; omega) _).setCell (by dsimp only; omega) _).setCell (by dsimp only; omega) _).setCell (by dsimp only; omega) _).setCell (by dsimp only; omega) _).setCell (by dsimp only; omega) _).setCell (by dsimp only; omega) _).setCell (by dsimp only; omega) _).drew, by rw [HX.out]; have := HN.out; simp; omega⟩
  rcases e123 : ((c.toNat : Int) == 123) with _ | _
  rotate_left
  · clear hp
    clear hd h2 hsl hX f4 hk hW4 HCL
    go_enter Tryz.func28, Tryz.ntmps28
    go_wp2_with fail
    change Calls Tryz.prog _ _ (four w a) _
    rw [HW.out]
    refine (q1.out _).mono ?_
    rintro e x1 ⟨rfl, rfl⟩
    go_wp2_with fail
    refine (q2.out _).mono ?_
    rintro e x2 ⟨rfl, rfl⟩
    go_wp2_with fail
    obtain ⟨lt, l0, l1, l2, a0, a1, a2, a3, a4, a5, b0, b1, c0, c1, c2, c3, c4, c5, d0, d1, za, zb, zc, zd⟩ := HF.out.cells
    refine (q3.out _).mono ?_
    rintro e x3 ⟨rfl, rfl⟩
    go_wp2_with fail
    go_region
    go_wp2_with fail
    refine bodyPost_ret (v := .tuple #[.agg #[.int .i64 4, .string (str [c]), .int .i64 0, .int .i64 a, .bool false, .bool false], .int .i64 (N : Int), .agg #[.int .i64 0, .int .i64 0]]) (by simp [results, Tryz.results28, go_sem, a0, a1, a2, a3, a4, a5, b0, b1]) rfl ?_
    exact ⟨_, _, _, _, _, _, _, rfl, by first | exact ((((((((((HK.out.setCell (by dsimp only; omega) _).setCell (by dsimp only; omega) _).setCell (by dsimp only; omega) _).setCell (by dsimp only; omega) _).setCell (by dsimp only; omega) _).setCell (by dsimp only; omega) _).setCell (by dsimp only; omega) _).setCell (by dsimp only; omega) _).setCell (by dsimp only; omega) _).setCell (by dsimp only; omega) _).drew, by rw [HX.out]; have := HN.out; simp; omega⟩
  rcases e125 : ((c.toNat : Int) == 125) with _ | _
  rotate_left
  · clear hp
    clear hd h2 hsl hX f4 hk hW4 HCL
    go_enter Tryz.func28, Tryz.ntmps28
    go_wp2_with fail
    change Calls Tryz.prog _ _ (four w a) _
    rw [HW.out]
    refine (q1.out _).mono ?_
    rintro e x1 ⟨rfl, rfl⟩
    go_wp2_with fail
    refine (q2.out _).mono ?_
    rintro e x2 ⟨rfl, rfl⟩
    go_wp2_with fail
    obtain ⟨lt, l0, l1, l2, a0, a1, a2, a3, a4, a5, b0, b1, c0, c1, c2, c3, c4, c5, d0, d1, za, zb, zc, zd⟩ := HF.out.cells
    refine (q3.out _).mono ?_
    rintro e x3 ⟨rfl, rfl⟩
    go_wp2_with fail
    go_region
    go_wp2_with fail
    refine bodyPost_ret (v := .tuple #[.agg #[.int .i64 4, .string (str [c]), .int .i64 0, .int .i64 a, .bool false, .bool false], .int .i64 (N : Int), .agg #[.int .i64 0, .int .i64 0]]) (by simp [results, Tryz.results28, go_sem, a0, a1, a2, a3, a4, a5, b0, b1]) rfl ?_
    exact ⟨_, _, _, _, _, _, _, rfl, by first | exact ((((((((((HK.out.setCell (by dsimp only; omega) _).setCell (by dsimp only; omega) _).setCell (by dsimp only; omega) _).setCell (by dsimp only; omega) _).setCell (by dsimp only; omega) _).setCell (by dsimp only; omega) _).setCell (by dsimp only; omega) _).setCell (by dsimp only; omega) _).setCell (by dsimp only; omega) _).setCell (by dsimp only; omega) _).drew, by rw [HX.out]; have := HN.out; simp; omega⟩
  rcases e44 : ((c.toNat : Int) == 44) with _ | _
  rotate_left
  · clear hp
    clear hd h2 hsl hX f4 hk hW4 HCL
    go_enter Tryz.func28, Tryz.ntmps28
    go_wp2_with fail
    change Calls Tryz.prog _ _ (four w a) _
    rw [HW.out]
    refine (q1.out _).mono ?_
    rintro e x1 ⟨rfl, rfl⟩
    go_wp2_with fail
    refine (q2.out _).mono ?_
    rintro e x2 ⟨rfl, rfl⟩
    go_wp2_with fail
    obtain ⟨lt, l0, l1, l2, a0, a1, a2, a3, a4, a5, b0, b1, c0, c1, c2, c3, c4, c5, d0, d1, za, zb, zc, zd⟩ := HF.out.cells
    refine (q3.out _).mono ?_
    rintro e x3 ⟨rfl, rfl⟩
    go_wp2_with fail
    go_region
    go_wp2_with fail
    refine bodyPost_ret (v := .tuple #[.agg #[.int .i64 4, .string (str [c]), .int .i64 0, .int .i64 a, .bool false, .bool false], .int .i64 (N : Int), .agg #[.int .i64 0, .int .i64 0]]) (by simp [results, Tryz.results28, go_sem, a0, a1, a2, a3, a4, a5, b0, b1]) rfl ?_
    exact ⟨_, _, _, _, _, _, _, rfl, by first | exact ((((((((((HK.out.setCell (by dsimp only; omega) _).setCell (by dsimp only; omega) _).setCell (by dsimp only; omega) _).setCell (by dsimp only; omega) _).setCell (by dsimp only; omega) _).setCell (by dsimp only; omega) _).setCell (by dsimp only; omega) _).setCell (by dsimp only; omega) _).setCell (by dsimp only; omega) _).setCell (by dsimp only; omega) _).drew, by rw [HX.out]; have := HN.out; simp; omega⟩
  rcases e124 : ((c.toNat : Int) == 124) with _ | _
  rotate_left
  · clear hp
    clear hd h2 hsl hX f4 hk hW4 HCL
    go_enter Tryz.func28, Tryz.ntmps28
    go_wp2_with fail
    change Calls Tryz.prog _ _ (four w a) _
    rw [HW.out]
    refine (q1.out _).mono ?_
    rintro e x1 ⟨rfl, rfl⟩
    go_wp2_with fail
    refine (q2.out _).mono ?_
    rintro e x2 ⟨rfl, rfl⟩
    go_wp2_with fail
    obtain ⟨lt, l0, l1, l2, a0, a1, a2, a3, a4, a5, b0, b1, c0, c1, c2, c3, c4, c5, d0, d1, za, zb, zc, zd⟩ := HF.out.cells
    refine (q3.out _).mono ?_
    rintro e x3 ⟨rfl, rfl⟩
    go_wp2_with fail
    go_region
    go_wp2_with fail
    refine bodyPost_ret (v := .tuple #[.agg #[.int .i64 4, .string (str [c]), .int .i64 0, .int .i64 a, .bool false, .bool false], .int .i64 (N : Int), .agg #[.int .i64 0, .int .i64 0]]) (by simp [results, Tryz.results28, go_sem, a0, a1, a2, a3, a4, a5, b0, b1]) rfl ?_
    exact ⟨_, _, _, _, _, _, _, rfl, by first | exact ((((((((((HK.out.setCell (by dsimp only; omega) _).setCell (by dsimp only; omega) _).setCell (by dsimp only; omega) _).setCell (by dsimp only; omega) _).setCell (by dsimp only; omega) _).setCell (by dsimp only; omega) _).setCell (by dsimp only; omega) _).setCell (by dsimp only; omega) _).setCell (by dsimp only; omega) _).setCell (by dsimp only; omega) _).drew, by rw [HX.out]; have := HN.out; simp; omega⟩
  simp [e40, e41, e91, e93, e123, e125, e44, e124] at hp
end Go.Proofs.YtjaaoljfkbbjpaaGreatDoor
