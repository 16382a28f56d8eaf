/-
  The document's tokens (pythiaref08): where letters and signs end. No condition.
-/
import Derived.Test.YtjaaoljfkbbjpaaGreatDoorRx0
namespace Go.Proofs.YtjaaoljfkbbjpaaGreatDoor
open Go.RowKit Go.Shelf Go.Maps
set_option linter.unusedVariables false
set_option linter.unusedSimpArgs false

def LeRel (f : List UInt8 → Nat) (L : List UInt8) (a : Nat) (w : World) (g : Nat) (i : Value) (wr : World) : Prop := ∃ k : Nat, a ≤ k ∧ k ≤ L.length ∧ g = L.length - k ∧ i = .int .i64 k ∧ f (L.drop a) = (k - a) + f (L.drop k) ∧ Keep (· < w.heap.size) w wr
theorem dig_len_cons (c : UInt8) (r : List UInt8) : digLen (c :: r) = if digB c then 1 + digLen r else 0 := by
  unfold digLen
  rw [List.takeWhile_cons]
  split
  · simp; omega
  · rfl
set_option maxRecDepth 100000 in
set_option maxHeartbeats 4000000 in
theorem rLetters_any (L : List UInt8) (a : Nat) (hl : L.length ≤ 16384) (ha : a ≤ L.length) (w : World) : Calls Tryz.prog 49 #[.string (str L), .int .i64 a] w fun e w' => e = .returned (.int .i64 ((a + letLen (L.drop a) : Nat) : Int)) ∧ Keep (· < w.heap.size) w w' := by
  have HR : Hid (LeRel letLen L a w (L.length - a) (.int .i64 a) w) := Lib.hid ⟨a, Nat.le_refl _, ha, rfl, rfl, by omega, Keep.refl _ _⟩
  have hs := str_size L
  have HGA := Lib.hid (fun k c r (h : L.drop k = c :: r) => str_getAt3 h)
  obtain ⟨s, hsl⟩ : ∃ s, str L = s := ⟨_, rfl⟩
  rw [hsl] at hs HGA ⊢
  clear hsl
  obtain ⟨X, hX⟩ : ∃ X, letLen (L.drop a) = X := ⟨_, rfl⟩
  rw [hX]
  have HX := Lib.hid hX
  clear hX
  go_enter Tryz.func49, Tryz.ntmps49
  go_wp2_with fail
  go_loopg [1] (L.length - a) (fun g i wr => LeRel letLen L a w g i wr)
  case atStart => exact HR.out
  case round =>
    clear HR
    obtain ⟨k, hak, hkl, hg, rfl, hf, hK⟩ := hrel
    have HG := Lib.hid hg
    have HF := Lib.hid hf
    have HK := Lib.hid hK
    have HAK := Lib.hid hak
    clear hg hf hK hak
    rcases hd : L.drop k with _ | ⟨c, r⟩
    · have h3 : L.length ≤ k := by simpa using hd
      have h4 : ¬ ((k : Int) < (L.length : Int)) := by omega
      have HZ : Hid (X = k - a) := Lib.hid (by rw [← HX.out, HF.out, hd]; rfl)
      clear hd
      go_wp2_with fail
      go_ret
      refine ⟨?_, HK.out⟩
      rw [HZ.out]
      have := HAK.out
      show Ending.returned (Value.int .i64 (k : Int)) = _
      congr 2
      omega
    · obtain ⟨h1, h2, hks, hsk⟩ := HGA.out k c r hd
      have h4 : ((k : Int) < (L.length : Int)) := by omega
      have hll := letLen_cons c r
      have hb := fun W => rLetter_any c W
      unfold byteV at hb
      have HD := Lib.hid hd
      have H2 := Lib.hid h2
      clear hd h2
      rcases hlb : letB c with _ | _
      · rw [hlb] at hb hll
        have HZ : Hid (X = k - a) := Lib.hid (by rw [← HX.out, HF.out, HD.out, hll]; simp)
        clear hll
        go_wp2_with (go_at_call 69; refine (hb _).mono ?_; rintro e w' ⟨rfl, rfl⟩)
        go_ret
        refine ⟨?_, HK.out⟩
        rw [HZ.out]
        have := HAK.out
        show Ending.returned (Value.int .i64 (k : Int)) = _
        congr 2
        omega
      · rw [hlb] at hb hll
        have HLL := Lib.hid hll
        clear hll
        go_wp2_with (go_at_call 69; refine (hb _).mono ?_; rintro e w' ⟨rfl, rfl⟩)
        go_roundg (L.length - (k + 1))
        case measure => have := HG.out; omega
        case rel => exact ⟨k + 1, by have := HAK.out; omega, by omega, rfl, by go_num, by rw [HF.out, HD.out, HLL.out, H2.out]; have := HAK.out; simp; omega, HK.out⟩
theorem sign_len_cons (c : UInt8) (r : List UInt8) : signLen (c :: r) = if signB c && !remB (c :: r) then 1 + signLen r else 0 := by
  rw [signLen]; split
  · omega
  · rfl
set_option maxRecDepth 100000 in
set_option maxHeartbeats 4000000 in
theorem rSigns_any (L : List UInt8) (a : Nat) (hl : L.length ≤ 16384) (ha : a ≤ L.length) (w : World) : Calls Tryz.prog 55 #[.string (str L), .int .i64 a] w fun e w' => e = .returned (.int .i64 ((a + signLen (L.drop a) : Nat) : Int)) ∧ Keep (· < w.heap.size) w w' := by
  have HR : Hid (LeRel signLen L a w (L.length - a) (.int .i64 a) w) := Lib.hid ⟨a, Nat.le_refl _, ha, rfl, rfl, by omega, Keep.refl _ _⟩
  have hs := str_size L
  have HGA := Lib.hid (fun k c r (h : L.drop k = c :: r) => str_getAt3 h)
  have HRM := Lib.hid (fun k (hk : k ≤ L.length) W => remark_any L k hl hk W)
  obtain ⟨s, hsl⟩ : ∃ s, str L = s := ⟨_, rfl⟩
  rw [hsl] at hs HGA HRM ⊢
  clear hsl
  obtain ⟨X, hX⟩ : ∃ X, signLen (L.drop a) = X := ⟨_, rfl⟩
  rw [hX]
  have HX := Lib.hid hX
  clear hX
  go_enter Tryz.func55, Tryz.ntmps55
  go_wp2_with fail
  go_loopg [1] (L.length - a) (fun g i wr => LeRel signLen L a w g i wr)
  case atStart => exact HR.out
  case round =>
    clear HR
    obtain ⟨k, hak, hkl, hg, rfl, hf, hK⟩ := hrel
    have HG := Lib.hid hg
    have HF := Lib.hid hf
    have HK := Lib.hid hK
    have HAK := Lib.hid hak
    clear hg hf hK hak
    have hrm := fun W => HRM.out k hkl W
    rcases hd : L.drop k with _ | ⟨c, r⟩
    · have h3 : L.length ≤ k := by simpa using hd
      have h4 : ¬ ((k : Int) < (L.length : Int)) := by omega
      have HZ : Hid (X = k - a) := Lib.hid (by rw [← HX.out, HF.out, hd]; rfl)
      clear hd hrm
      go_wp2_with fail
      go_ret
      refine ⟨?_, HK.out⟩
      rw [HZ.out]
      have := HAK.out
      show Ending.returned (Value.int .i64 (k : Int)) = _
      congr 2
      omega
    · obtain ⟨h1, h2, hks, hsk⟩ := HGA.out k c r hd
      rw [hd] at hrm
      have h4 : ((k : Int) < (L.length : Int)) := by omega
      have hll := sign_len_cons c r
      have HSG := Lib.hid (fun W => rSign_any c W)
      unfold byteV at HSG
      have HD := Lib.hid hd
      have H2 := Lib.hid h2
      clear hd h2
      rcases hlb : signB c with _ | _
      · rw [hlb] at HSG hll
        have HZ : Hid (X = k - a) := Lib.hid (by rw [← HX.out, HF.out, HD.out, hll]; simp)
        clear hll hrm
        go_wp2_with (go_at_call 14; refine (HSG.out _).mono ?_; rintro e w1 ⟨rfl, hk1⟩; have HK1 := Lib.hid (HK.out.trans (hk1.less fun i hi => Nat.lt_of_lt_of_le hi HK.out.size)); clear hk1)
        go_ret
        refine ⟨?_, HK1.out⟩
        rw [HZ.out]
        have := HAK.out
        show Ending.returned (Value.int .i64 (k : Int)) = _
        congr 2
        omega
      · rw [hlb] at HSG hll
        rcases hrb : remB (c :: r) with _ | _
        · rw [hrb] at hll hrm
          have HLL := Lib.hid hll
          have HRB := Lib.hid hrm
          clear hll hrm
          go_wp2_with (first | (go_at_call 14; refine (HSG.out _).mono ?_; rintro e w1 ⟨rfl, hk1⟩; have HK1 := Lib.hid (HK.out.trans (hk1.less fun i hi => Nat.lt_of_lt_of_le hi HK.out.size)); clear hk1) | (go_at_call 47; refine (HRB.out _).mono ?_; rintro e w' ⟨rfl, rfl⟩))
          go_roundg (L.length - (k + 1))
          case measure => have := HG.out; omega
          case rel => exact ⟨k + 1, by have := HAK.out; omega, by omega, rfl, by go_num, by rw [HF.out, HD.out, HLL.out, H2.out]; have := HAK.out; simp; omega, HK1.out⟩
        · rw [hrb] at hll hrm
          have HZ : Hid (X = k - a) := Lib.hid (by rw [← HX.out, HF.out, HD.out, hll]; simp)
          have HRB := Lib.hid hrm
          clear hll hrm
          go_wp2_with (first | (go_at_call 14; refine (HSG.out _).mono ?_; rintro e w1 ⟨rfl, hk1⟩; have HK1 := Lib.hid (HK.out.trans (hk1.less fun i hi => Nat.lt_of_lt_of_le hi HK.out.size)); clear hk1) | (go_at_call 47; refine (HRB.out _).mono ?_; rintro e w' ⟨rfl, rfl⟩))
          go_ret
          refine ⟨?_, HK1.out⟩
          rw [HZ.out]
          have := HAK.out
          show Ending.returned (Value.int .i64 (k : Int)) = _
          congr 2
          omega
end Go.Proofs.YtjaaoljfkbbjpaaGreatDoor
