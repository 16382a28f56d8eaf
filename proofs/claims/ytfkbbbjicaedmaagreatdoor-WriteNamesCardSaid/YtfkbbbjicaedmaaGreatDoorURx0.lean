/-
  The document's tokens (pythiaref08): which kind a byte is, a remark, a full stop, where letters end. No condition.
-/
import Derived.Test.YtfkbbbjicaedmaaGreatDoorUWrE
import Derived.Test.YtfkbbbjicaedmaaGreatDoorULx0
import Derived.Lib.SmallJoins
import Derived.Test.YtfkbbbjicaedmaaGreatDoorULx11
import Derived.Test.YtfkbbbjicaedmaaGreatDoorULx22
namespace Go.Proofs.YtfkbbbjicaedmaaGreatDoor
open Go.RowKit Go.Shelf Go.Maps
set_option linter.unusedVariables false
set_option linter.unusedSimpArgs false
theorem blank_int (c : UInt8) : blankB c = (decide ((c.toNat : Int) = 9) || (decide ((c.toNat : Int) = 10) || (decide ((c.toNat : Int) = 13) || decide ((c.toNat : Int) = 32)))) := by
  exact of_all256 (f := blankB) (g := fun c => (decide ((c.toNat : Int) = 9) || (decide ((c.toNat : Int) = 10) || (decide ((c.toNat : Int) = 13) || decide ((c.toNat : Int) = 32))))) (by decide +kernel) c
set_option maxRecDepth 100000 in
theorem rBlank_any (c : UInt8) (w : World) : Calls Tryz.prog 69 #[byteV c] w fun e w' => e = .returned (.bool (blankB c)) ∧ w' = w := by
  have hb := blank_int c
  unfold byteV
  generalize (c.toNat : Int) = n at *
  generalize blankB c = b at *
  have h1 : (n == 9) = decide (n = 9) := rfl
  by_cases e1 : n = 9
  · obtain rfl : b = true := by rw [hb]; simp [e1]
    have e1' : (n == 9) = true := by simpa using e1
    clear hb h1 e1
    go_enter Tryz.func69, Tryz.ntmps69
    go_wp2
    go_ret
    exact ⟨rfl, rfl⟩
  have e1' : (n == 9) = false := by simpa using e1
  by_cases e2 : n = 10
  · obtain rfl : b = true := by rw [hb]; simp [e2]
    have e2' : (n == 10) = true := by simpa using e2
    clear hb h1 e1 e2
    go_enter Tryz.func69, Tryz.ntmps69
    go_wp2
    go_ret
    exact ⟨rfl, rfl⟩
  have e2' : (n == 10) = false := by simpa using e2
  by_cases e3 : n = 13
  · obtain rfl : b = true := by rw [hb]; simp [e3]
    have e3' : (n == 13) = true := by simpa using e3
    clear hb h1 e1 e2 e3
    go_enter Tryz.func69, Tryz.ntmps69
    go_wp2
    go_ret
    exact ⟨rfl, rfl⟩
  have e3' : (n == 13) = false := by simpa using e3
  obtain rfl : b = (n == 32) := by rw [hb]; simp [e1, e2, e3]; rfl
  clear hb h1 e1 e2 e3
  go_enter Tryz.func69, Tryz.ntmps69
  go_wp2
  go_ret
  exact ⟨rfl, rfl⟩
set_option maxRecDepth 100000 in
theorem rSmall_any (c : UInt8) (w : World) : Calls Tryz.prog 71 #[byteV c] w fun e w' => e = .returned (.bool (smallB c)) ∧ w' = w := by
  have hb := small_int c
  unfold byteV
  generalize (c.toNat : Int) = n at *
  by_cases h1 : (97 : Int) ≤ n
  · have hb2 : smallB c = decide (n ≤ 122) := by rw [hb]; simp [h1]
    rw [hb2]
    go_enter Tryz.func71, Tryz.ntmps71
    go_wp2
    go_ret
    exact ⟨rfl, rfl⟩
  · have hb2 : smallB c = false := by rw [hb]; simp [h1]
    rw [hb2]
    go_enter Tryz.func71, Tryz.ntmps71
    go_wp2
    go_ret
    exact ⟨rfl, rfl⟩
set_option maxRecDepth 100000 in
theorem rDigit_any (c : UInt8) (w : World) : Calls Tryz.prog 74 #[byteV c] w fun e w' => e = .returned (.bool (digB c)) ∧ w' = w := by
  have hb := dig_int c
  unfold byteV
  generalize (c.toNat : Int) = n at *
  by_cases h1 : (48 : Int) ≤ n
  · have hb2 : digB c = decide (n ≤ 57) := by rw [hb]; simp [h1]
    rw [hb2]
    go_enter Tryz.func74, Tryz.ntmps74
    go_wp2
    go_ret
    exact ⟨rfl, rfl⟩
  · have hb2 : digB c = false := by rw [hb]; simp [h1]
    rw [hb2]
    go_enter Tryz.func74, Tryz.ntmps74
    go_wp2
    go_ret
    exact ⟨rfl, rfl⟩
set_option maxRecDepth 100000 in
theorem rCapital_any (c : UInt8) (w : World) : Calls Tryz.prog 73 #[byteV c] w fun e w' => e = .returned (.bool (capB c)) ∧ w' = w := by
  have hb := cap_int c
  unfold byteV
  generalize (c.toNat : Int) = n at *
  by_cases h1 : (65 : Int) ≤ n
  · by_cases h2 : n ≤ 90
    · have hb2 : capB c = true := by rw [hb]; simp [h1, h2]
      rw [hb2]
      go_enter Tryz.func73, Tryz.ntmps73
      go_wp2
      go_ret
      exact ⟨rfl, rfl⟩
    · have hb2 : capB c = decide (n = 95) := by rw [hb]; simp [h2]
      rw [hb2]
      go_enter Tryz.func73, Tryz.ntmps73
      go_wp2
      go_ret
      exact ⟨rfl, rfl⟩
  · have hb2 : capB c = decide (n = 95) := by rw [hb]; simp [h1]
    rw [hb2]
    go_enter Tryz.func73, Tryz.ntmps73
    go_wp2
    go_ret
    exact ⟨rfl, rfl⟩
set_option maxRecDepth 100000 in
set_option maxHeartbeats 1000000 in
theorem rLetter_any (c : UInt8) (w : World) : Calls Tryz.prog 88 #[byteV c] w fun e w' => e = .returned (.bool (letB c)) ∧ w' = w := by
  have h1 := fun W => rSmall_any c W
  have h2 := fun W => rCapital_any c W
  have h3 := fun W => rDigit_any c W
  have hl : (smallB c || (capB c || digB c)) = letB c := rfl
  unfold byteV at *
  generalize (c.toNat : Int) = n at *
  generalize letB c = l at *
  generalize smallB c = a at *
  generalize capB c = b at *
  generalize digB c = d at *
  subst hl
  go_enter Tryz.func88, Tryz.ntmps88
  cases a <;> cases b <;>
  · go_wp2_with (first
      | (go_at_call 71; refine (h1 _).mono ?_; rintro e w' ⟨rfl, rfl⟩)
      | (go_at_call 73; refine (h2 _).mono ?_; rintro e w' ⟨rfl, rfl⟩)
      | (go_at_call 74; refine (h3 _).mono ?_; rintro e w' ⟨rfl, rfl⟩))
    go_ret
    exact ⟨by simp, rfl⟩
theorem str_getAt3 {L : List UInt8} {k : Nat} {c : UInt8} {r : List UInt8} (h : L.drop k = c :: r) : k < L.length ∧ L.drop (k + 1) = r ∧ ∃ hk : k < (str L).size, (str L)[k]'hk = c := by
  obtain ⟨a, b, d⟩ := str_at h
  have hk : k < (str L).size := by rw [str_size]; exact a
  exact ⟨a, b, hk, d hk⟩
set_option maxRecDepth 100000 in
set_option maxHeartbeats 1000000 in
theorem remark_any (L : List UInt8) (k : Nat) (hl : L.length ≤ 16384) (hk : k ≤ L.length) (w : World) : Calls Tryz.prog 70 #[.string (str L), .int .i64 k] w fun e w' => e = .returned (.bool (remB (L.drop k))) ∧ w' = w := by
  have hs := str_size L
  rcases hd : L.drop k with _ | ⟨c, r⟩
  · have h3 : L.length ≤ k := by simpa using hd
    have h4 : ¬ ((k : Int) + 1 < (L.length : Int)) := by omega
    generalize str L = s at *
    rw [show remB [] = false from rfl]
    clear hd
    go_enter Tryz.func70, Tryz.ntmps70
    go_wp2
    go_ret
    exact ⟨rfl, rfl⟩
  obtain ⟨h1, h2, hk1, hg1⟩ := str_getAt3 hd
  rcases r with _ | ⟨d, r⟩
  · have h3 : L.length ≤ k + 1 := by simpa using h2
    have h4 : ¬ ((k : Int) + 1 < (L.length : Int)) := by omega
    generalize str L = s at *
    rw [show remB [c] = false from rfl]
    clear hd hg1 h2
    go_enter Tryz.func70, Tryz.ntmps70
    go_wp2
    go_ret
    exact ⟨rfl, rfl⟩
  obtain ⟨h3, _, hk2, hg2⟩ := str_getAt3 h2
  have h4 : ((k : Int) + 1 < (L.length : Int)) := by omega
  rw [show remB (c :: d :: r) = (c == 47 && d == 42) from rfl]
  rw [show (c == 47) = decide ((c.toNat : Int) = 47) from of_all256 (f := fun c => c == 47) (g := fun c => decide ((c.toNat : Int) = 47)) (by decide +kernel) c, show (d == 42) = decide ((d.toNat : Int) = 42) from of_all256 (f := fun c => c == 42) (g := fun c => decide ((c.toNat : Int) = 42)) (by decide +kernel) d]
  generalize str L = s at *
  clear hd h2
  by_cases e1 : (c.toNat : Int) = 47
  · rw [decide_eq_true e1]
    have e1' : ((c.toNat : Int) == 47) = true := by simpa using e1
    go_enter Tryz.func70, Tryz.ntmps70
    go_wp2
    go_ret
    exact ⟨rfl, rfl⟩
  · rw [decide_eq_false e1]
    have e1' : ((c.toNat : Int) == 47) = false := by simpa using e1
    go_enter Tryz.func70, Tryz.ntmps70
    go_wp2
    go_ret
    exact ⟨by simp, rfl⟩
def behB : List UInt8 → Bool
  | [] => true
  | d :: _ => blankB d || decide ((d.toNat : Int) = 37)
theorem stop_eq (c : UInt8) (r : List UInt8) : stopB (c :: r) = (decide ((c.toNat : Int) = 46) && behB r) := by
  rw [show decide ((c.toNat : Int) = 46) = (c == 46) from (of_all256 (f := fun c => c == 46) (g := fun c => decide ((c.toNat : Int) = 46)) (by decide +kernel) c).symm]
  cases r with
  | nil => rfl
  | cons d r =>
    rw [show behB (d :: r) = (blankB d || decide ((d.toNat : Int) = 37)) from rfl, show decide ((d.toNat : Int) = 37) = (d == 37) from (of_all256 (f := fun c => c == 37) (g := fun c => decide ((c.toNat : Int) = 37)) (by decide +kernel) d).symm]
    rfl
set_option maxRecDepth 100000 in
set_option maxHeartbeats 1000000 in
theorem stop_any (L : List UInt8) (k : Nat) (hl : L.length ≤ 16384) {c : UInt8} {r : List UInt8} (hd : L.drop k = c :: r) (w : World) : Calls Tryz.prog 77 #[.string (str L), .int .i64 k] w fun e w' => e = .returned (.bool (stopB (c :: r))) ∧ w' = w := by
  have hs := str_size L
  obtain ⟨h1, h2, hk1, hg1⟩ := str_getAt3 hd
  rw [stop_eq]
  by_cases e1 : (c.toNat : Int) = 46
  · rw [decide_eq_true e1]
    have e1' : ((c.toNat : Int) == 46) = true := by simpa using e1
    rcases r with _ | ⟨d, r⟩
    · have h3 : L.length ≤ k + 1 := by simpa using h2
      have h4 : (L.length : Int) ≤ (k : Int) + 1 := by omega
      generalize str L = s at *
      clear hd h2
      go_enter Tryz.func77, Tryz.ntmps77
      go_wp2
      go_ret
      exact ⟨rfl, rfl⟩
    obtain ⟨h3, _, hk2, hg2⟩ := str_getAt3 h2
    have h4 : ¬ ((L.length : Int) ≤ (k : Int) + 1) := by omega
    have hb := fun W => rBlank_any d W
    unfold byteV at hb
    rw [show behB (d :: r) = (blankB d || decide ((d.toNat : Int) = 37)) from rfl]
    generalize str L = s at *
    clear hd h2
    rcases hbd : blankB d with _ | _
    all_goals
      rw [hbd] at hb
      go_enter Tryz.func77, Tryz.ntmps77
      go_wp2_with (go_at_call 69; refine (hb _).mono ?_; rintro e w' ⟨rfl, rfl⟩)
      go_ret
      exact ⟨rfl, rfl⟩
  · rw [decide_eq_false e1]
    have e1' : ((c.toNat : Int) == 46) = false := by simpa using e1
    generalize str L = s at *
    clear hd h2
    go_enter Tryz.func77, Tryz.ntmps77
    go_wp2
    go_ret
    exact ⟨by simp, rfl⟩
def sgnL : List UInt8 := [43, 45, 42, 47, 92, 94, 60, 62, 61, 126, 58, 46, 63, 64, 35, 38, 36]
def SgRel (c : UInt8) (w : World) (g : Nat) (i : Value) (wr : World) : Prop := ∃ k : Nat, k ≤ 17 ∧ g = 17 - k ∧ i = .int .i64 k ∧ (sgnL.take k).contains c = false ∧ wr = w.alloc (.cells (sgnL.map byteV).toArray 5 (17, 18))
set_option maxRecDepth 100000 in
set_option maxHeartbeats 1000000 in
theorem rSign_any (c : UInt8) (w : World) : Calls Tryz.prog 78 #[byteV c] w fun e w' => e = .returned (.bool (signB c)) ∧ Keep (· < w.heap.size) w w' := by
  have HK := Lib.hid ((Keep.refl (· < w.heap.size) w).alloc (.cells (sgnL.map byteV).toArray 5 (17, 18)))
  have kc := fun (w : World) (C : Array Value) (n c : Nat) => Lib.run_convert_bytes_const (P := Tryz.prog) w 42 5 C n c Tryz.underlying42 Tryz.underlying5
  have hsg : signB c = sgnL.contains c := rfl
  have HSG := Lib.hid hsg
  clear hsg
  generalize signB c = b at *
  have HAT := Lib.hid (fun (d : UInt8) => show (d = c) ↔ (d.toNat : Int) = (c.toNat : Int) from ⟨fun h => by rw [h], fun h => UInt8.toNat_inj.1 (by omega)⟩)
  unfold byteV
  go_enter Tryz.func78, Tryz.ntmps78
  go_wp2_with fail
  go_loopg [8] 17 (fun g i wr => SgRel c w g i wr)
  case atStart => exact ⟨0, by omega, rfl, rfl, rfl, rfl⟩
  case round =>
    obtain ⟨k, hk, hg, rfl, hc, hW⟩ := hrel
    have HC := Lib.hid hc
    have hcl := fun j => World.cell?_alloc_mark w (sgnL.map byteV).toArray 5 (17, 18) j
    rw [← hW] at HK hcl
    have HKP := HK
    have HW := Lib.hid hW
    have HG := Lib.hid hg
    have hlt : w.heap.size < wr.heap.size := by rw [hW]; simp
    have HCL := Lib.hid hcl
    clear hc hg hcl hW HK
    by_cases hkn : k < 17
    · obtain ⟨d, hd⟩ : ∃ d, sgnL[k]? = some d := ⟨_, List.getElem?_eq_getElem (by exact hkn)⟩
      have hcell : wr.cell? ⟨w.heap.size, k, none⟩ = some (.int .u8 (d.toNat : Int)) := by rw [HCL.out]; simp [hd, byteV]
      have htk : sgnL.take (k + 1) = sgnL.take k ++ [d] := by rw [List.take_add_one, hd]; rfl
      have HTK := Lib.hid htk
      have HD := Lib.hid hd
      have hdc := HAT.out d
      have hkn' : (k : Int) < 17 := by omega
      clear htk hd
      by_cases e : (d.toNat : Int) = (c.toNat : Int)
      · have e' : ((d.toNat : Int) == (c.toNat : Int)) = true := by simpa using e
        have HE := Lib.hid (hdc.2 e)
        clear hdc e
        go_wp2_with fail
        go_ret
        refine ⟨?_, HKP.out⟩
        rw [HSG.out, show sgnL.contains c = true from by rw [List.contains_iff_mem]; rw [← HE.out]; exact List.mem_of_getElem? HD.out]
        rfl
      · have e' : ((d.toNat : Int) == (c.toNat : Int)) = false := by simpa using e
        have HE := Lib.hid (fun h => e (hdc.1 h))
        clear hdc e
        go_wp2_with fail
        go_roundg (17 - (k + 1))
        case measure => have := HG.out; omega
        case rel => exact ⟨k + 1, by omega, rfl, by go_num, by
          have h := HC.out
          rw [HTK.out]
          simp only [List.contains_append, h, Bool.false_or, List.contains_cons, List.contains_nil, Bool.or_false]
          exact beq_eq_false_iff_ne.2 (fun h => HE.out h.symm), HW.out⟩
    · have hkn' : ¬ (k : Int) < 17 := by omega
      obtain rfl : k = 17 := by omega
      have HZ : Hid (b = false) := Lib.hid (by rw [HSG.out]; exact HC.out)
      go_wp2_with fail
      go_ret
      refine ⟨by rw [HZ.out]; rfl, HKP.out⟩
end Go.Proofs.YtfkbbbjicaedmaaGreatDoor
namespace Go.Proofs.YtfkbbbjicaedmaaGreatDoor
open Go.RowKit Go.Shelf Go.Maps
set_option linter.unusedVariables false
set_option linter.unusedSimpArgs false
def LeRel (f : List UInt8 → Nat) (L : List UInt8) (a : Nat) (w : World) (g : Nat) (i : Value) (wr : World) : Prop := ∃ k : Nat, a ≤ k ∧ k ≤ L.length ∧ g = L.length - k ∧ i = .int .i64 k ∧ f (L.drop a) = (k - a) + f (L.drop k) ∧ Keep (· < w.heap.size) w wr
theorem dig_len_cons (c : UInt8) (r : List UInt8) : digLen (c :: r) = if digB c then 1 + digLen r else 0 := by
  unfold digLen
  rw [List.takeWhile_cons]
  split
  · simp; omega
  · rfl
set_option maxRecDepth 100000 in
set_option maxHeartbeats 4000000 in
theorem rLetters_any (L : List UInt8) (a : Nat) (hl : L.length ≤ 16384) (ha : a ≤ L.length) (w : World) : Calls Tryz.prog 72 #[.string (str L), .int .i64 a] w fun e w' => e = .returned (.int .i64 ((a + letLen (L.drop a) : Nat) : Int)) ∧ Keep (· < w.heap.size) w w' := by
  have HR : Hid (LeRel letLen L a w (L.length - a) (.int .i64 a) w) := Lib.hid ⟨a, Nat.le_refl _, ha, rfl, rfl, by omega, Keep.refl _ _⟩
  have hs := str_size L
  have HGA := Lib.hid (fun k c r (h : L.drop k = c :: r) => str_getAt3 h)
  obtain ⟨s, hsl⟩ : ∃ s, str L = s := ⟨_, rfl⟩
  rw [hsl] at hs HGA ⊢
  clear hsl
  obtain ⟨X, hX⟩ : ∃ X, letLen (L.drop a) = X := ⟨_, rfl⟩
  rw [hX]
  have HX := Lib.hid hX
  clear hX
  go_enter Tryz.func72, Tryz.ntmps72
  go_wp2_with fail
  go_loopg [1] (L.length - a) (fun g i wr => LeRel letLen L a w g i wr)
  case atStart => exact HR.out
  case round =>
    clear HR
    obtain ⟨k, hak, hkl, hg, rfl, hf, hK⟩ := hrel
    have HG := Lib.hid hg
    have HF := Lib.hid hf
    have HK := Lib.hid hK
    have HAK := Lib.hid hak
    clear hg hf hK hak
    rcases hd : L.drop k with _ | ⟨c, r⟩
    · have h3 : L.length ≤ k := by simpa using hd
      have h4 : ¬ ((k : Int) < (L.length : Int)) := by omega
      have HZ : Hid (X = k - a) := Lib.hid (by rw [← HX.out, HF.out, hd]; rfl)
      clear hd
      go_wp2_with fail
      go_ret
      refine ⟨?_, HK.out⟩
      rw [HZ.out]
      have := HAK.out
      show Ending.returned (Value.int .i64 (k : Int)) = _
      congr 2
      omega
    · obtain ⟨h1, h2, hks, hsk⟩ := HGA.out k c r hd
      have h4 : ((k : Int) < (L.length : Int)) := by omega
      have hll := letLen_cons c r
      have hb := fun W => rLetter_any c W
      unfold byteV at hb
      have HD := Lib.hid hd
      have H2 := Lib.hid h2
      clear hd h2
      rcases hlb : letB c with _ | _
      · rw [hlb] at hb hll
        have HZ : Hid (X = k - a) := Lib.hid (by rw [← HX.out, HF.out, HD.out, hll]; simp)
        clear hll
        go_wp2_with (go_at_call 88; refine (hb _).mono ?_; rintro e w' ⟨rfl, rfl⟩)
        go_ret
        refine ⟨?_, HK.out⟩
        rw [HZ.out]
        have := HAK.out
        show Ending.returned (Value.int .i64 (k : Int)) = _
        congr 2
        omega
      · rw [hlb] at hb hll
        have HLL := Lib.hid hll
        clear hll
        go_wp2_with (go_at_call 88; refine (hb _).mono ?_; rintro e w' ⟨rfl, rfl⟩)
        go_roundg (L.length - (k + 1))
        case measure => have := HG.out; omega
        case rel => exact ⟨k + 1, by have := HAK.out; omega, by omega, rfl, by go_num, by rw [HF.out, HD.out, HLL.out, H2.out]; have := HAK.out; simp; omega, HK.out⟩
theorem sign_len_cons (c : UInt8) (r : List UInt8) : signLen (c :: r) = if signB c && !remB (c :: r) then 1 + signLen r else 0 := by
  rw [signLen]; split
  · omega
  · rfl
set_option maxRecDepth 100000 in
set_option maxHeartbeats 4000000 in
theorem rSigns_any (L : List UInt8) (a : Nat) (hl : L.length ≤ 16384) (ha : a ≤ L.length) (w : World) : Calls Tryz.prog 79 #[.string (str L), .int .i64 a] w fun e w' => e = .returned (.int .i64 ((a + signLen (L.drop a) : Nat) : Int)) ∧ Keep (· < w.heap.size) w w' := by
  have HR : Hid (LeRel signLen L a w (L.length - a) (.int .i64 a) w) := Lib.hid ⟨a, Nat.le_refl _, ha, rfl, rfl, by omega, Keep.refl _ _⟩
  have hs := str_size L
  have HGA := Lib.hid (fun k c r (h : L.drop k = c :: r) => str_getAt3 h)
  have HRM := Lib.hid (fun k (hk : k ≤ L.length) W => remark_any L k hl hk W)
  obtain ⟨s, hsl⟩ : ∃ s, str L = s := ⟨_, rfl⟩
  rw [hsl] at hs HGA HRM ⊢
  clear hsl
  obtain ⟨X, hX⟩ : ∃ X, signLen (L.drop a) = X := ⟨_, rfl⟩
  rw [hX]
  have HX := Lib.hid hX
  clear hX
  go_enter Tryz.func79, Tryz.ntmps79
  go_wp2_with fail
  go_loopg [1] (L.length - a) (fun g i wr => LeRel signLen L a w g i wr)
  case atStart => exact HR.out
  case round =>
    clear HR
    obtain ⟨k, hak, hkl, hg, rfl, hf, hK⟩ := hrel
    have HG := Lib.hid hg
    have HF := Lib.hid hf
    have HK := Lib.hid hK
    have HAK := Lib.hid hak
    clear hg hf hK hak
    have hrm := fun W => HRM.out k hkl W
    rcases hd : L.drop k with _ | ⟨c, r⟩
    · have h3 : L.length ≤ k := by simpa using hd
      have h4 : ¬ ((k : Int) < (L.length : Int)) := by omega
      have HZ : Hid (X = k - a) := Lib.hid (by rw [← HX.out, HF.out, hd]; rfl)
      clear hd hrm
      go_wp2_with fail
      go_ret
      refine ⟨?_, HK.out⟩
      rw [HZ.out]
      have := HAK.out
      show Ending.returned (Value.int .i64 (k : Int)) = _
      congr 2
      omega
    · obtain ⟨h1, h2, hks, hsk⟩ := HGA.out k c r hd
      rw [hd] at hrm
      have h4 : ((k : Int) < (L.length : Int)) := by omega
      have hll := sign_len_cons c r
      have HSG := Lib.hid (fun W => rSign_any c W)
      unfold byteV at HSG
      have HD := Lib.hid hd
      have H2 := Lib.hid h2
      clear hd h2
      rcases hlb : signB c with _ | _
      · rw [hlb] at HSG hll
        have HZ : Hid (X = k - a) := Lib.hid (by rw [← HX.out, HF.out, HD.out, hll]; simp)
        clear hll hrm
        go_wp2_with (go_at_call 78; refine (HSG.out _).mono ?_; rintro e w1 ⟨rfl, hk1⟩; have HK1 := Lib.hid (HK.out.trans (hk1.less fun i hi => Nat.lt_of_lt_of_le hi HK.out.size)); clear hk1)
        go_ret
        refine ⟨?_, HK1.out⟩
        rw [HZ.out]
        have := HAK.out
        show Ending.returned (Value.int .i64 (k : Int)) = _
        congr 2
        omega
      · rw [hlb] at HSG hll
        rcases hrb : remB (c :: r) with _ | _
        · rw [hrb] at hll hrm
          have HLL := Lib.hid hll
          have HRB := Lib.hid hrm
          clear hll hrm
          go_wp2_with (first | (go_at_call 78; refine (HSG.out _).mono ?_; rintro e w1 ⟨rfl, hk1⟩; have HK1 := Lib.hid (HK.out.trans (hk1.less fun i hi => Nat.lt_of_lt_of_le hi HK.out.size)); clear hk1) | (go_at_call 70; refine (HRB.out _).mono ?_; rintro e w' ⟨rfl, rfl⟩))
          go_roundg (L.length - (k + 1))
          case measure => have := HG.out; omega
          case rel => exact ⟨k + 1, by have := HAK.out; omega, by omega, rfl, by go_num, by rw [HF.out, HD.out, HLL.out, H2.out]; have := HAK.out; simp; omega, HK1.out⟩
        · rw [hrb] at hll hrm
          have HZ : Hid (X = k - a) := Lib.hid (by rw [← HX.out, HF.out, HD.out, hll]; simp)
          have HRB := Lib.hid hrm
          clear hll hrm
          go_wp2_with (first | (go_at_call 78; refine (HSG.out _).mono ?_; rintro e w1 ⟨rfl, hk1⟩; have HK1 := Lib.hid (HK.out.trans (hk1.less fun i hi => Nat.lt_of_lt_of_le hi HK.out.size)); clear hk1) | (go_at_call 70; refine (HRB.out _).mono ?_; rintro e w' ⟨rfl, rfl⟩))
          go_ret
          refine ⟨?_, HK1.out⟩
          rw [HZ.out]
          have := HAK.out
          show Ending.returned (Value.int .i64 (k : Int)) = _
          congr 2
          omega
end Go.Proofs.YtfkbbbjicaedmaaGreatDoor
namespace Go.Proofs.YtfkbbbjicaedmaaGreatDoor
open Go.RowKit Go.Shelf Go.Maps
set_option linter.unusedVariables false
set_option linter.unusedSimpArgs false
def SkR (x : R Unit) : Value := match x with | .good _ n _ => .tuple #[.int .i64 n, .agg #[.int .i64 0, .int .i64 0]] | .bad c q => .tuple #[.int .i64 0, .agg #[.int .i64 c, .int .i64 q]]
theorem lineLen_cons (c : UInt8) (r : List UInt8) : lineLen (c :: r) = if (c != 10) then 1 + lineLen r else 0 := by
  unfold lineLen
  rw [List.takeWhile_cons]
  split
  · simp; omega
  · rfl
def SoRel (L : List UInt8) (X : R Unit) (W0 : World) (g : Nat) (i : Value) (wr : World) : Prop := ∃ k : Nat, k ≤ L.length ∧ g = L.length - k ∧ i = .int .i64 k ∧ skipL k (L.drop k) = X ∧ wr = W0
def SlRel (L : List UInt8) (k : Nat) (W0 : World) (g : Nat) (i : Value) (wr : World) : Prop := ∃ j : Nat, k ≤ j ∧ j ≤ L.length ∧ g = L.length - j ∧ i = .int .i64 j ∧ lineLen (L.drop k) = (j - k) + lineLen (L.drop j) ∧ wr = W0
def SrRel (L : List UInt8) (k : Nat) (W0 : World) (g : Nat) (i : Value) (wr : World) : Prop := ∃ j : Nat, k + 2 ≤ j ∧ j ≤ L.length ∧ g = L.length - j ∧ i = .int .i64 j ∧ remEnd (L.drop (k + 2)) = (remEnd (L.drop j)).map (· + (j - (k + 2))) ∧ wr = W0
theorem eqInt (c : UInt8) (n : UInt8) : (c == n) = ((c.toNat : Int) == (n.toNat : Int)) := by
  by_cases h : c = n
  · subst h; simp
  · have : ¬ (c.toNat : Int) = (n.toNat : Int) := fun e => h (UInt8.toNat_inj.1 (by omega))
    rw [beq_eq_false_iff_ne.2 h, beq_eq_false_iff_ne.2 this]
theorem remEnd_one (c : UInt8) : remEnd [c] = none := by simp [remEnd]
theorem map_add (x : Option Nat) (a : Nat) : (x.map (· + 1)).map (· + a) = x.map (· + (a + 1)) := by cases x <;> simp; omega
set_option maxRecDepth 1000000 in
set_option maxHeartbeats 8000000 in
theorem rSkip_any (L : List UInt8) (a : Nat) (hl : L.length ≤ 16384) (ha : a ≤ L.length) (w : World) : Calls Tryz.prog 59 #[.string (str L), .int .i64 a] w fun e w' => e = .returned (SkR (skipL a (L.drop a))) ∧ Keep (· < w.heap.size) w w' := by
  have hs := str_size L
  have HGA := Lib.hid (fun k c r (h : L.drop k = c :: r) => str_getAt3 h)
  have HRM := Lib.hid (fun k (hk : k ≤ L.length) W => remark_any L k hl hk W)
  obtain ⟨s, hsl⟩ : ∃ s, str L = s := ⟨_, rfl⟩
  rw [hsl] at hs HGA HRM ⊢
  clear hsl
  obtain ⟨X, hX⟩ : ∃ X, skipL a (L.drop a) = X := ⟨_, rfl⟩
  rw [hX]
  obtain ⟨W0, hW0⟩ : ∃ W0, W0 = w.alloc (.cells #[.int .i64 0, .int .i64 0] 71) := ⟨_, rfl⟩
  have hb := Blk.new w 71 #[.int .i64 0, .int .i64 0]
  have hk0 := (Keep.refl (· < w.heap.size) w).alloc (.cells #[.int .i64 0, .int .i64 0] 71)
  have hz0 : (w.alloc (.cells #[.int .i64 0, .int .i64 0] 71)).heap.size = w.heap.size + 1 := by simp
  rw [← hW0] at hb hk0 hz0
  have f0 := hb.cell 0
  have f1 := hb.cell 1
  have z0 := hb.frozen 0
  have z1 := hb.frozen 1
  simp at f0 f1
  have HB := Lib.hid hb
  have HK0 := Lib.hid hk0
  have HR : Hid (SoRel L X W0 (L.length - a) (.int .i64 a) W0) := Lib.hid ⟨a, ha, rfl, rfl, hX, rfl⟩
  have HW := Lib.hid hW0
  have hpz : w.heap.size < W0.heap.size := by omega
  clear hX hb hk0 hz0
  go_enter Tryz.func59, Tryz.ntmps59
  go_wp2_with fail
  rw [← HW.out]
  clear hW0
  go_loopg [1] (L.length - a) (fun g i wr => SoRel L X W0 g i wr)
  case atStart => exact HR.out
  case round =>
    clear HR
    obtain ⟨k, hkl, hg, rfl, hx, rfl⟩ := hrel
    have HG := Lib.hid hg
    have HX := Lib.hid hx
    clear hg hx
    rcases hd : L.drop k with _ | ⟨c, r⟩
    · have h3 : L.length ≤ k := by simpa using hd
      have h4 : ¬ ((k : Int) < (L.length : Int)) := by omega
      have HZ : Hid (X = .good () k []) := Lib.hid (by rw [← HX.out, hd]; rfl)
      clear hd
      go_wp2_with fail
      refine bodyPost_ret (v := .tuple #[.int .i64 k, .agg #[.int .i64 0, .int .i64 0]]) (by simp [results, Tryz.results59, go_sem, f0, f1]) rfl ?_
      exact ⟨by rw [HZ.out]; rfl, (HK0.out.setCell (by simp) _).setCell (by simp) _⟩
    · obtain ⟨h1, h2, hks, hsk⟩ := HGA.out k c r hd
      have hrm := fun W => HRM.out k hkl W
      rw [hd] at hrm
      have h4 : ((k : Int) < (L.length : Int)) := by omega
      have HBL := Lib.hid (fun W => rBlank_any c W)
      unfold byteV at HBL
      have HD := Lib.hid hd
      have H2 := Lib.hid h2
      clear hd h2
      rcases hb : blankB c with _ | _
      · rw [hb] at HBL
        by_cases e37 : (c.toNat : Int) = 37
        · have e37' : ((c.toNat : Int) == 37) = true := by simpa using e37
          have HC := Lib.hid (show c = 37 from UInt8.toNat_inj.1 (by have : (37 : UInt8).toNat = 37 := rfl; omega))
          have HB2 := Lib.hid hb
          clear hrm hb e37
          go_wp2_with (go_at_call 69; refine (HBL.out _).mono ?_; rintro e w1 ⟨rfl, rfl⟩)
          clear e37' h4 hks hsk
          go_loopg [1] (L.length - k) (fun g i wr => SlRel L k w1 g i wr)
          case atStart => exact ⟨k, Nat.le_refl _, hkl, rfl, rfl, by omega, rfl⟩
          case round =>
            obtain ⟨j, hkj, hjl, hg, rfl, hf, rfl⟩ := hrel
            have HG2 := Lib.hid hg
            have HF := Lib.hid hf
            have HKJ := Lib.hid hkj
            clear hg hf hkj
            -- behind the line
            have next : lineLen (L.drop j) = 0 → SoRel L X wr (L.length - j) (.int .i64 j) wr := fun h0 => by
              have hx := HX.out
              rw [HD.out, skip_line HB2.out HC.out] at hx
              have hf := HF.out
              rw [h0, HD.out, lineLen_cons, if_pos (by rw [HC.out]; rfl)] at hf
              have := HKJ.out
              have e : k + (1 + lineLen r) = j := by omega
              have hdr : r.drop (lineLen r) = L.drop j := by rw [show j = (k + 1) + lineLen r by omega, ← List.drop_drop, H2.out]
              rw [e, hdr] at hx
              exact ⟨j, hjl, rfl, rfl, hx, rfl⟩
            have NX := Lib.hid next
            clear next
            rcases hd : L.drop j with _ | ⟨d, q⟩
            · have h3 : L.length ≤ j := by simpa using hd
              have h4 : ¬ ((j : Int) < (L.length : Int)) := by omega
              have NX2 := Lib.hid (NX.out (by rw [hd]; rfl))
              have HLT := Lib.hid (show L.length - j < L.length - k by have := HKJ.out; omega)
              clear hd
              go_wp2_with fail
              go_roundg (L.length - j)
              case measure => have := HG.out; have := HLT.out; omega
              case rel => exact NX2.out
            · obtain ⟨h1, h2, hjs, hsj⟩ := HGA.out j d q hd
              have h4 : ((j : Int) < (L.length : Int)) := by omega
              have hll := lineLen_cons d q
              by_cases e10 : (d.toNat : Int) = 10
              · have e10' : ((d.toNat : Int) == 10) = true := by simpa using e10
                have hd10 : d = 10 := UInt8.toNat_inj.1 (by have : (10 : UInt8).toNat = 10 := rfl; omega)
                rw [hd10] at hll
                have NX2 := Lib.hid (NX.out (by rw [hd, hd10]; exact hll))
                have HLT := Lib.hid (show k < j by
                  have := HKJ.out
                  rcases Nat.lt_or_ge k j with h | h
                  · exact h
                  · have : k = j := by omega
                    subst this
                    rw [HD.out] at hd
                    cases hd
                    have := HC.out
                    rw [hd10] at this
                    cases this)
                clear hd hd10 hll e10 h2
                go_wp2_with fail
                go_roundg (L.length - j)
                case measure => have := HG.out; have := HLT.out; omega
                case rel => exact NX2.out
              · have e10' : ((d.toNat : Int) == 10) = false := by simpa using e10
                have hd10 : (d != 10) = true := by
                  have : ¬ d = 10 := fun h => e10 (by rw [h]; rfl)
                  simpa using this
                rw [if_pos hd10] at hll
                have HL2 := Lib.hid hll
                have HD2 := Lib.hid hd
                have H22 := Lib.hid h2
                clear hd hd10 hll e10 h2
                go_wp2_with fail
                go_roundg (L.length - (j + 1))
                case measure => have := HG2.out; omega
                case rel => exact ⟨j + 1, by have := HKJ.out; omega, by omega, rfl, by go_num, by rw [HF.out, HD2.out, HL2.out, H22.out]; have := HKJ.out; omega, rfl⟩
        · have e37' : ((c.toNat : Int) == 37) = false := by simpa using e37
          have HC := Lib.hid (show c ≠ 37 from fun h => e37 (by rw [h]; rfl))
          have HB2 := Lib.hid hb
          rcases hrb : remB (c :: r) with _ | _
          · rw [hrb] at hrm
            have HZ : Hid (X = .good () k (c :: r)) := Lib.hid (by rw [← HX.out, HD.out, skip_end HB2.out HC.out hrb])
            have HRB := Lib.hid hrm
            clear hrm hb e37 hrb
            go_wp2_with (first | (go_at_call 69; refine (HBL.out _).mono ?_; rintro e w1 ⟨rfl, rfl⟩) | (go_at_call 70; refine (HRB.out _).mono ?_; rintro e w2 ⟨rfl, rfl⟩))
            refine bodyPost_ret (v := .tuple #[.int .i64 k, .agg #[.int .i64 0, .int .i64 0]]) (by simp [results, Tryz.results59, go_sem, f0, f1]) rfl ?_
            exact ⟨by rw [HZ.out]; rfl, (HK0.out.setCell (by simp) _).setCell (by simp) _⟩
          · rw [hrb] at hrm
            have HRB := Lib.hid hrm
            have HRE := Lib.hid hrb
            have hk2 : k + 2 ≤ L.length := by
              have hl2 := congrArg List.length HD.out
              rcases r with _ | ⟨d, r⟩
              · rw [show remB [c] = false from rfl] at hrb; cases hrb
              · simp at hl2; omega
            have HRD := Lib.hid (show r.drop 1 = L.drop (k + 2) by rw [← H2.out, List.drop_drop])
            clear hrm hb e37 hrb
            go_wp2_with (first | (go_at_call 69; refine (HBL.out _).mono ?_; rintro e w1 ⟨rfl, rfl⟩) | (go_at_call 70; refine (HRB.out _).mono ?_; rintro e w2 ⟨rfl, rfl⟩))
            clear e37' h4 hks hsk
            go_loopg [1] (L.length - (k + 2)) (fun g i wr => SrRel L k w2 g i wr)
            case atStart => exact ⟨k + 2, Nat.le_refl _, hk2, rfl, by go_num, by simp, rfl⟩
            case round =>
              obtain ⟨j, hkj, hjl, hg, rfl, hf, rfl⟩ := hrel
              have HG2 := Lib.hid hg
              have HF := Lib.hid hf
              have HKJ := Lib.hid hkj
              clear hg hf hkj
              have more : ∀ d q, L.drop j = d :: q → remEnd (L.drop j) = (remEnd (L.drop (j + 1))).map (· + 1) → SrRel L k wr (L.length - (j + 1)) (.int .i64 ((j : Int) + 1)) wr := fun d q hd he => by
                have hlt := (HGA.out j d q hd).1
                refine ⟨j + 1, by have := HKJ.out; omega, by omega, rfl, by go_num, ?_, rfl⟩
                rw [HF.out, he, map_add]
                have := HKJ.out
                congr 2
                funext x
                omega
              have MO := Lib.hid more
              clear more
              rcases hd : L.drop j with _ | ⟨d, q⟩
              · have h3 : L.length ≤ j := by simpa using hd
                have h4 : ¬ ((j : Int) + 1 < (L.length : Int)) := by omega
                have h5 : (L.length : Int) ≤ (j : Int) := by omega
                have HZ : Hid (X = .bad 81 k) := Lib.hid (by rw [← HX.out, HD.out, skip_open HB2.out HC.out HRE.out (by rw [HRD.out, HF.out, hd]; rfl)])
                clear hd
                go_wp2_with fail
                refine bodyPost_ret (v := .tuple #[.int .i64 0, .agg #[.int .i64 81, .int .i64 k]]) (by simp [results, Tryz.results59, go_sem, f0, f1]) rfl ?_
                exact ⟨by rw [HZ.out]; rfl, (HK0.out.setCell (by simp) _).setCell (by simp) _⟩
              · obtain ⟨h1, h2, hjs, hsj⟩ := HGA.out j d q hd
                have h5 : ¬ (L.length : Int) ≤ (j : Int) := by omega
                rcases q with _ | ⟨e, q⟩
                · have h3 : L.length ≤ j + 1 := by simpa using h2
                  have h4 : ¬ ((j : Int) + 1 < (L.length : Int)) := by omega
                  have MO2 := Lib.hid (MO.out d [] hd (by rw [hd, h2, remEnd_one]; rfl))
                  clear hd h2
                  go_wp2_with fail
                  go_roundg (L.length - (j + 1))
                  case measure => have := HG2.out; omega
                  case rel => exact MO2.out
                · obtain ⟨h3, h6, hjs2, hsj2⟩ := HGA.out (j + 1) e q h2
                  have h4 : ((j : Int) + 1 < (L.length : Int)) := by omega
                  have her : remEnd (d :: e :: q) = if d == 42 && e == 47 then some 0 else (remEnd (e :: q)).map (· + 1) := by rw [remEnd]; simp
                  by_cases e42 : (d.toNat : Int) = 42
                  · have e42' : ((d.toNat : Int) == 42) = true := by simpa using e42
                    by_cases e47 : (e.toNat : Int) = 47
                    · have e47' : ((e.toNat : Int) == 47) = true := by simpa using e47
                      have he0 : remEnd (L.drop j) = some 0 := by rw [hd, her, eqInt d 42, eqInt e 47]; simp [e42, e47]
                      have NX2 : Hid (SoRel L X wr (L.length - (j + 2)) (.int .i64 ((j : Int) + 2)) wr) := Lib.hid (by
                        have hx := HX.out
                        rw [HD.out, skip_rem (k := j - (k + 2)) HB2.out HC.out HRE.out (by rw [HRD.out, HF.out, he0]; simp)] at hx
                        have := HKJ.out
                        have hdr : r.drop (j - (k + 2) + 3) = L.drop (j + 2) := by rw [← H2.out, List.drop_drop]; congr 1; omega
                        rw [show k + (j - (k + 2) + 4) = j + 2 by omega, hdr] at hx
                        exact ⟨j + 2, by omega, rfl, by go_num, hx, rfl⟩)
                      have HKJ2 := HKJ.out
                      clear hd h2 her he0 e42 e47 h6
                      go_wp2_with fail
                      go_roundg (L.length - (j + 2))
                      case measure => have := HG.out; omega
                      case rel => exact NX2.out
                    · have e47' : ((e.toNat : Int) == 47) = false := by simpa using e47
                      have MO2 := Lib.hid (MO.out d (e :: q) hd (by rw [hd, h2, her, eqInt d 42, eqInt e 47, show (((e.toNat : Nat) : Int) == (((47 : UInt8).toNat : Nat) : Int)) = false from e47', Bool.and_false, if_neg (by simp)]))
                      clear hd h2 her e42 e47 h6
                      go_wp2_with fail
                      go_roundg (L.length - (j + 1))
                      case measure => have := HG2.out; omega
                      case rel => exact MO2.out
                  · have e42' : ((d.toNat : Int) == 42) = false := by simpa using e42
                    have MO2 := Lib.hid (MO.out d (e :: q) hd (by rw [hd, h2, her, eqInt d 42, show (((d.toNat : Nat) : Int) == (((42 : UInt8).toNat : Nat) : Int)) = false from e42', Bool.false_and, if_neg (by simp)]))
                    clear hd h2 her e42 h6
                    go_wp2_with fail
                    go_roundg (L.length - (j + 1))
                    case measure => have := HG2.out; omega
                    case rel => exact MO2.out
      · rw [hb] at HBL
        have NX : Hid (SoRel L X wr (L.length - (k + 1)) (.int .i64 ((k : Int) + 1)) wr) := Lib.hid (by
          have hx := HX.out
          rw [HD.out, skip_blank hb, ← H2.out] at hx
          exact ⟨k + 1, by omega, rfl, by go_num, hx, rfl⟩)
        clear hrm hb
        go_wp2_with (go_at_call 69; refine (HBL.out _).mono ?_; rintro e w1 ⟨rfl, rfl⟩)
        go_roundg (L.length - (k + 1))
        case measure => have := HG.out; omega
        case rel => exact NX.out
end Go.Proofs.YtfkbbbjicaedmaaGreatDoor
namespace Go.Proofs.YtfkbbbjicaedmaaGreatDoor
open Go.RowKit Go.Shelf Go.Maps
set_option linter.unusedVariables false
set_option linter.unusedSimpArgs false
theorem str_getAt2 {L : List UInt8} {i : Nat} {c : UInt8} (h : L[i]? = some c) : ∃ hk : i < (str L).size, (str L)[i]'hk = c := by
  obtain ⟨hlt, hc⟩ := List.getElem?_eq_some_iff.1 h
  have hk : i < (str L).size := by rw [str_size]; exact hlt
  exact ⟨hk, (str_at (c := c) (r := L.drop (i + 1)) (by rw [List.drop_eq_getElem_cons hlt, hc])).2.2 _⟩
theorem cell_one (W : World) (z : Int) (r : Nat) (hr : r = W.heap.size) (j : Nat) (u : Value) (h : [Value.int .u8 z][j]? = some u) : (W.alloc (.cells #[.int .u8 z] 5)).cell? (Addr.add ⟨r, 0, none⟩ j) = some u := by
  subst hr
  have hb := (Blk.new W 5 #[.int .u8 z]).cell j
  have he : Addr.add ⟨W.heap.size, 0, none⟩ j = ⟨W.heap.size, j, none⟩ := by simp [Addr.add]; omega
  rw [he, hb]; simpa using h
def QuR (N : List UInt8) (w1 : World) (k : Nat) (v : Value) (wr : World) : Prop :=
  (∀ c ∈ N.take k, okB c = true) ∧ wr.ownsRow w1.heap.size 5 1 v (39 :: escS (N.take k)).length ((39 :: escS (N.take k)).map byteV) ∧ Keep (· < w1.heap.size) w1 wr
theorem QuR.grow {N : List UInt8} {w1 wr w' : World} {v v' : Value} {acc : List UInt8} {c : UInt8} (hrow : wr.ownsRow w1.heap.size 5 1 v acc.length (acc.map byteV)) (hk : Keep (· < w1.heap.size) w1 wr)
    (hown : w'.ownsRow w1.heap.size 5 1 v' (acc.length + 1) (acc.map byteV ++ [byteV c])) (hg : (wr.alloc (.cells #[byteV c] 5)).grownBy w' v.ownBlock) :
    w'.ownsRow w1.heap.size 5 1 v' (acc ++ [c]).length ((acc ++ [c]).map byteV) ∧ Keep (· < w1.heap.size) w1 w' := by
  have h1 := grown_keep (hrow.alloc (.cells #[byteV c] 5)) hg
  exact ⟨by simpa using hown, (hk.alloc _).trans h1⟩
end Go.Proofs.YtfkbbbjicaedmaaGreatDoor
namespace Go.Proofs.YtfkbbbjicaedmaaGreatDoor
open Go.RowKit Go.Shelf Go.Maps
set_option linter.unusedVariables false
set_option linter.unusedSimpArgs false
def EsR (k o : Nat) : QR → Value
  | .byte c _ => .tuple #[byteV c, .agg #[.int .i64 0, .int .i64 0]]
  | .over => .tuple #[.int .u8 0, .agg #[.int .i64 81, .int .i64 o]]
  | .bad e => .tuple #[.int .u8 0, .agg #[.int .i64 e, .int .i64 k]]
  | .close => .tuple #[.int .u8 0, .agg #[.int .i64 0, .int .i64 0]]
set_option maxRecDepth 1000000 in
set_option maxHeartbeats 8000000 in
theorem rEscape_any (L : List UInt8) (k o : Nat) (hl : L.length ≤ 16384) (hk : k < L.length) (w : World) : Calls Tryz.prog 90 #[.string (str L), .int .i64 k, .int .i64 o] w fun e w' => e = .returned (EsR k o (escL (L.drop (k + 1)))) ∧ Keep (· < w.heap.size) w w' := by
  have hs := str_size L
  have HGA := Lib.hid (fun k c r (h : L.drop k = c :: r) => str_getAt3 h)
  obtain ⟨s, hsl⟩ : ∃ s, str L = s := ⟨_, rfl⟩
  rw [hsl] at hs HGA ⊢
  clear hsl
  have hb := Blk.new w 71 #[.int .i64 0, .int .i64 0]
  have f0 := hb.cell 0
  have f1 := hb.cell 1
  have z0 := hb.frozen 0
  have z1 := hb.frozen 1
  simp at f0 f1
  have HK0 := Lib.hid ((Keep.refl (· < w.heap.size) w).alloc (.cells #[.int .i64 0, .int .i64 0] 71))
  clear hb
  rcases hd : L.drop (k + 1) with _ | ⟨c, r⟩
  · have h3 : L.length ≤ k + 1 := by simpa using hd
    have h4 : (L.length : Int) ≤ (k : Int) + 1 := by omega
    clear hd
    go_enter Tryz.func90, Tryz.ntmps90
    go_wp2_with fail
    refine bodyPost_ret (v := .tuple #[.int .u8 0, .agg #[.int .i64 81, .int .i64 o]]) (by simp [results, Tryz.results90, go_sem, f0, f1]) rfl ?_
    exact ⟨rfl, (Keep.refl _ w).alloc _⟩
  · obtain ⟨h1, h2, hks, hsk⟩ := HGA.out (k + 1) c r hd
    have h4 : ¬ (L.length : Int) ≤ (k : Int) + 1 := by omega
    have he : escL (c :: r) = if ((c.toNat : Int) == 110) then .byte 10 2 else if ((c.toNat : Int) == 116) then .byte 9 2 else if ((c.toNat : Int) == 92) || (((c.toNat : Int) == 39) || ((c.toNat : Int) == 34)) then .byte c 2 else .bad 82 := by
      rw [escL, eqInt c 110, eqInt c 116, eqInt c 92, eqInt c 39, eqInt c 34]; rfl
    rw [he]
    have hbv : byteV c = .int .u8 (c.toNat : Int) := rfl
    clear hd h2 he
    rcases e1 : ((c.toNat : Int) == 110) with _ | _
    · rcases e2 : ((c.toNat : Int) == 116) with _ | _
      · rcases e3 : ((c.toNat : Int) == 92) with _ | _
        · rcases e4 : ((c.toNat : Int) == 39) with _ | _
          · rcases e5 : ((c.toNat : Int) == 34) with _ | _
            · go_enter Tryz.func90, Tryz.ntmps90
              go_wp2_with fail
              refine bodyPost_ret (v := .tuple #[.int .u8 0, .agg #[.int .i64 82, .int .i64 k]]) (by simp [results, Tryz.results90, go_sem, f0, f1]) rfl ?_
              exact ⟨rfl, (Keep.refl _ w).alloc _⟩
            · go_enter Tryz.func90, Tryz.ntmps90
              go_wp2_with fail
              refine bodyPost_ret (v := .tuple #[.int .u8 (c.toNat : Int), .agg #[.int .i64 0, .int .i64 0]]) (by simp [results, Tryz.results90, go_sem, f0, f1]) rfl ?_
              exact ⟨rfl, (Keep.refl _ w).alloc _⟩
          · go_enter Tryz.func90, Tryz.ntmps90
            go_wp2_with fail
            refine bodyPost_ret (v := .tuple #[.int .u8 (c.toNat : Int), .agg #[.int .i64 0, .int .i64 0]]) (by simp [results, Tryz.results90, go_sem, f0, f1]) rfl ?_
            exact ⟨rfl, (Keep.refl _ w).alloc _⟩
        · go_enter Tryz.func90, Tryz.ntmps90
          go_wp2_with fail
          refine bodyPost_ret (v := .tuple #[.int .u8 (c.toNat : Int), .agg #[.int .i64 0, .int .i64 0]]) (by simp [results, Tryz.results90, go_sem, f0, f1]) rfl ?_
          exact ⟨rfl, (Keep.refl _ w).alloc _⟩
      · go_enter Tryz.func90, Tryz.ntmps90
        go_wp2_with fail
        refine bodyPost_ret (v := .tuple #[.int .u8 9, .agg #[.int .i64 0, .int .i64 0]]) (by simp [results, Tryz.results90, go_sem, f0, f1]) rfl ?_
        exact ⟨rfl, (Keep.refl _ w).alloc _⟩
    · go_enter Tryz.func90, Tryz.ntmps90
      go_wp2_with fail
      refine bodyPost_ret (v := .tuple #[.int .u8 10, .agg #[.int .i64 0, .int .i64 0]]) (by simp [results, Tryz.results90, go_sem, f0, f1]) rfl ?_
      exact ⟨rfl, (Keep.refl _ w).alloc _⟩
def qAft (acc : List UInt8) : R (List UInt8) → R (List UInt8)
  | .good s n r => .good (acc ++ s) n r
  | .bad c p => .bad c p
theorem qAft_byte {acc l : List UInt8} {o k n : Nat} {c : UInt8} (h : inQ l = .byte c n) : qAft acc (quotL o k l) = qAft (acc ++ [c]) (quotL o (k + n) (l.drop n)) := by
  rw [quot_byte h]
  cases quotL o (k + n) (l.drop n) <;> simp [qAft]
theorem escL_two {l : List UInt8} {c : UInt8} {n : Nat} (h : escL l = .byte c n) : n = 2 := by
  cases l with
  | nil => cases h
  | cons d r =>
    rw [escL] at h
    repeat' split at h
    all_goals first | (injection h with _ h2; exact h2.symm) | cases h
theorem escL_close {l : List UInt8} : escL l ≠ .close := by
  cases l with
  | nil => intro h; cases h
  | cons d r => rw [escL]; intro h; repeat' split at h
                all_goals cases h
theorem escL_bad {l : List UInt8} {e : Nat} (h : escL l = .bad e) : e = 82 := by
  cases l with
  | nil => cases h
  | cons d r =>
    rw [escL] at h
    repeat' split at h
    all_goals first | (injection h with h2; exact h2.symm) | cases h
def QtR : R (List UInt8) → Value
  | .good s n _ => .tuple #[.string (str s), .int .i64 n, .agg #[.int .i64 0, .int .i64 0]]
  | .bad c q => .tuple #[.string ⟨#[]⟩, .int .i64 0, .agg #[.int .i64 c, .int .i64 q]]
def QoRel (L : List UInt8) (o : Nat) (X : R (List UInt8)) (W1 : World) (g : Nat) (v i : Value) (wr : World) : Prop := ∃ (k : Nat) (acc : List UInt8), o + 1 ≤ k ∧ k ≤ L.length ∧ g = L.length - k ∧ i = .int .i64 k ∧ qAft acc (quotL o k (L.drop k)) = X ∧ acc.length ≤ k ∧
  wr.ownsRow W1.heap.size 5 1 v acc.length (acc.map byteV) ∧ Keep (· < W1.heap.size) W1 wr
theorem keep_fault {W0 W1 wr : World} {p : Nat} (hp : p < W1.heap.size) (hW : Keep (· < p) W0 W1) (hk : Keep (· < W1.heap.size) W1 wr) (a b : Value) : Keep (· < p) W0 ((wr.setCell ⟨p, 0, none⟩ a).setCell ⟨p, 1, none⟩ b) :=
  ((hW.trans (hk.less fun i (hi : i < p) => Nat.lt_trans hi hp)).setCell (by simp) _).setCell (by simp) _
set_option maxRecDepth 1000000 in
set_option maxHeartbeats 8000000 in
theorem rQuoted_any (L : List UInt8) (o : Nat) (hl : L.length ≤ 16384) (ho : o < L.length) (w : World) : Calls Tryz.prog 76 #[.string (str L), .int .i64 o] w fun e w' => e = .returned (QtR (quotL o (o + 1) (L.drop (o + 1)))) ∧ Keep (· < w.heap.size) w w' := by
  obtain ⟨i0, hi0, hz0, hz1, hz2⟩ := info_parts infoU8
  have hs := str_size L
  have HGA := Lib.hid (fun k c r (h : L.drop k = c :: r) => str_getAt3 h)
  have HES := Lib.hid (fun k (hk : k < L.length) W => rEscape_any L k o hl hk W)
  obtain ⟨s, hsl⟩ : ∃ s, str L = s := ⟨_, rfl⟩
  rw [hsl] at hs HGA HES ⊢
  clear hsl
  obtain ⟨X, hX⟩ : ∃ X, quotL o (o + 1) (L.drop (o + 1)) = X := ⟨_, rfl⟩
  rw [hX]
  obtain ⟨W1, hW1⟩ : ∃ W1, W1 = w.alloc (.cells #[.int .i64 0, .int .i64 0] 71) := ⟨_, rfl⟩
  have hb := Blk.new w 71 #[.int .i64 0, .int .i64 0]
  have hk0 := (Keep.refl (· < w.heap.size) w).alloc (.cells #[.int .i64 0, .int .i64 0] 71)
  have hz0' : (w.alloc (.cells #[.int .i64 0, .int .i64 0] 71)).heap.size = w.heap.size + 1 := by simp
  rw [← hW1] at hb hk0 hz0'
  have hpz : w.heap.size < W1.heap.size := by omega
  have hbe := Blk.new W1 5 #[]
  have HB := Lib.hid hb
  have HK0 := Lib.hid hk0
  have HR : Hid (QoRel L o X W1 (L.length - (o + 1)) (.slice (some ⟨w.heap.size + 1, 0, none⟩) 0 0) (.int .i64 ((o : Int) + 1)) (W1.alloc (.cells #[] 5))) := Lib.hid (by
    rw [← hz0']
    exact ⟨o + 1, [], Nat.le_refl _, by omega, rfl, by go_num, by rw [hX]; cases X <;> rfl, by simp, ⟨rfl, .inr ⟨_, 0, _, rfl, Nat.le_refl _, hbe, Nat.le_refl _, by unfold maxLen; omega, rfl, rfl⟩⟩, (Keep.refl _ W1).alloc _⟩)
  have HW := Lib.hid hW1
  have HZ1 := Lib.hid hz0'
  clear hX hb hk0 hbe
  go_enter Tryz.func76, Tryz.ntmps76
  go_wp2_with fail
  rw [← HW.out]
  clear hW1
  go_loopg [7, 8] (L.length - (o + 1)) (fun g v i wr => QoRel L o X W1 g v i wr)
  case atStart => exact HR.out
  case round =>
    clear HR
    obtain ⟨k, acc, hok, hkl, hg, rfl, hx, hal, hrow, hkp⟩ := hrel
    have HG := Lib.hid hg
    have HX := Lib.hid hx
    have HOK := Lib.hid hok
    have HROW := Lib.hid hrow
    have HK := Lib.hid hkp
    have hblk := HB.out.keep hkp hpz
    have f0 := hblk.cell 0
    have f1 := hblk.cell 1
    have z0 := hblk.frozen 0
    have z1 := hblk.frozen 1
    have hpr := hblk.lt
    simp at f0 f1
    clear hg hx hok hrow hkp hblk
    -- a byte more
    have more : ∀ (c : UInt8) (n : Nat) (v : Value) (w4 : World), inQ (L.drop k) = .byte c n → 1 ≤ n → k + n ≤ L.length → w4.ownsRow W1.heap.size 5 1 v (acc ++ [c]).length ((acc ++ [c]).map byteV) → Keep (· < W1.heap.size) W1 w4 → QoRel L o X W1 (L.length - (k + n)) v (.int .i64 ((k : Int) + n)) w4 := fun c n v w4 hq h1 hn hr hk => by
      refine ⟨k + n, acc ++ [c], by have := HOK.out; omega, hn, rfl, by go_num, ?_, by simp; omega, hr, hk⟩
      rw [← HX.out, qAft_byte hq, List.drop_drop]
    have MO := Lib.hid more
    clear more
    rcases hd : L.drop k with _ | ⟨c, r⟩
    · have h3 : L.length ≤ k := by simpa using hd
      have h4 : ¬ ((k : Int) < (L.length : Int)) := by omega
      have HZ : Hid (X = .bad 81 o) := Lib.hid (by rw [← HX.out, hd, quot_over rfl]; rfl)
      clear hd
      go_wp2_with fail
      refine bodyPost_ret (v := .tuple #[.string ⟨#[]⟩, .int .i64 0, .agg #[.int .i64 81, .int .i64 o]]) (by simp [results, Tryz.results76, go_sem, f0, f1]) rfl ?_
      exact ⟨by rw [HZ.out]; rfl, keep_fault hpz HK0.out HK.out _ _⟩
    · obtain ⟨h1, h2, hks, hsk⟩ := HGA.out k c r hd
      have h4 : ((k : Int) < (L.length : Int)) := by omega
      have HD := Lib.hid hd
      have H2 := Lib.hid h2
      by_cases e39 : (c.toNat : Int) = 39
      · have e39' : ((c.toNat : Int) == 39) = true := by simpa using e39
        obtain rfl : c = 39 := UInt8.toNat_inj.1 (by have : (39 : UInt8).toNat = 39 := rfl; omega)
        simp only [show (((39 : UInt8).toNat : Nat) : Int) = 39 from rfl] at *
        rcases r with _ | ⟨d, q⟩
        · have h3 : L.length ≤ k + 1 := by simpa using h2
          have h5 : ¬ ((k : Int) + 1 < (L.length : Int)) := by omega
          have HZ : Hid (X = .good acc (k + 1) []) := Lib.hid (by rw [← HX.out, hd, quot_close rfl]; simp [qAft])
          have hcv := bytes_string HROW.out
          clear hd h2 e39
          go_wp2_with fail
          refine bodyPost_ret (v := .tuple #[.string (str acc), .int .i64 ((k : Int) + 1), .agg #[.int .i64 0, .int .i64 0]]) (by simp [results, Tryz.results76, go_sem, f0, f1]) rfl ?_
          exact ⟨by rw [HZ.out]; simp [QtR], keep_fault hpz HK0.out HK.out _ _⟩
        · obtain ⟨h3, h6, hks2, hsk2⟩ := HGA.out (k + 1) d q h2
          have h5 : ((k : Int) + 1 < (L.length : Int)) := by omega
          by_cases d39 : (d.toNat : Int) = 39
          · have d39' : ((d.toNat : Int) == 39) = true := by simpa using d39
            obtain rfl : d = 39 := UInt8.toNat_inj.1 (by have : (39 : UInt8).toNat = 39 := rfl; omega)
            have HQ : Hid (inQ (L.drop k) = .byte 39 2) := Lib.hid (by rw [hd]; rfl)
            clear hd h2 e39 d39 h6
            go_wp2_with (at_builtin; (refine wpList_append_own _ rfl _ _ 42 rfl W1.heap.size 5 i0 (.int .u8 0) 1 1 Tryz.underlying42 hi0 hz0 hz1 hz2 rfl (by decide) _ _ _ rfl (World.ownsRow.alloc HROW.out _) ⟨wr.heap.size, 0, none⟩ 1 1 [.int .u8 39] rfl rfl (cell_one wr 39 _ rfl) (by simp [Value.oneCell']) (by unfold maxLen; simp; omega) (by simp; omega) (by have := HK.out.size; simp; omega) ?_; intro v4 w4 hown4 hgrow4 _; obtain ⟨hr4, hk4⟩ := QuR.grow (N := []) (c := 39) HROW.out HK.out hown4 hgrow4; have HR4 := Lib.hid hr4; have HK4 := Lib.hid hk4; clear hown4 hgrow4 hr4 hk4))
            go_roundg (L.length - (k + 2))
            case measure => have := HG.out; omega
            case rel => exact MO.out 39 2 _ _ HQ.out (by omega) (by omega) HR4.out HK4.out
          · have d39' : ((d.toNat : Int) == 39) = false := by simpa using d39
            have HZ : Hid (X = .good acc (k + 1) (d :: q)) := Lib.hid (by
              have hne : ((d :: q).head? == some 39) = false := by
                have : ¬ d = 39 := fun h => d39 (by rw [h]; rfl)
                simpa using this
              rw [← HX.out, hd, quot_close (by rw [inQ, hne]; rfl)]; simp [qAft])
            have hcv := bytes_string HROW.out
            clear hd h2 e39 d39 h6
            go_wp2_with fail
            refine bodyPost_ret (v := .tuple #[.string (str acc), .int .i64 ((k : Int) + 1), .agg #[.int .i64 0, .int .i64 0]]) (by simp [results, Tryz.results76, go_sem, f0, f1]) rfl ?_
            exact ⟨by rw [HZ.out]; simp [QtR], keep_fault hpz HK0.out HK.out _ _⟩
      have e39' : ((c.toNat : Int) == 39) = false := by simpa using e39
      by_cases e92 : (c.toNat : Int) = 92
      · have e92' : ((c.toNat : Int) == 92) = true := by simpa using e92
        obtain rfl : c = 92 := UInt8.toNat_inj.1 (by have : (92 : UInt8).toNat = 92 := rfl; omega)
        simp only [show (((92 : UInt8).toNat : Nat) : Int) = 92 from rfl] at *
        have hes := fun W => HES.out k h1 W
        rw [h2] at hes
        have hiq : inQ (92 :: r) = escL r := rfl
        rcases hq : escL r with ⟨x, n⟩ | _ | _ | e
        · obtain rfl := escL_two hq
          rw [hq] at hes hiq
          have HES2 := Lib.hid hes
          have hpos := inQ_pos hiq
          have HQ : Hid (inQ (L.drop k) = .byte x 2) := Lib.hid (by rw [hd]; exact hiq)
          have hk2 : k + 2 ≤ L.length := by have := congrArg List.length hd; simp at this; have := hpos.2.2; simp at this; omega
          clear hes hd h2 e39 e92 hiq hq hpos
          go_wp2_with fail
          refine (HES2.out _).mono ?_
          rintro e w2 ⟨rfl, hk2'⟩
          have HK2 := Lib.hid (HK.out.trans (hk2'.less fun i hi => Nat.lt_of_lt_of_le hi HK.out.size))
          have HROW2 := Lib.hid (own_keepS HROW.out hk2' (fun g _ hg => hg))
          have HROWF := Lib.hid (World.ownsRow.alloc HROW2.out (.cells #[.int .i64 0, .int .i64 0] 71))
          have HKF := Lib.hid (HK2.out.alloc (.cells #[.int .i64 0, .int .i64 0] 71))
          clear hk2'
          unfold EsR byteV
          go_wp2_with (at_builtin; (refine wpList_append_own _ rfl _ _ 42 rfl W1.heap.size 5 i0 (.int .u8 0) 1 1 Tryz.underlying42 hi0 hz0 hz1 hz2 rfl (by decide) _ _ _ rfl (World.ownsRow.alloc HROWF.out _) ⟨w2.heap.size + 1, 0, none⟩ 1 1 [.int .u8 (x.toNat : Int)] rfl rfl (cell_one (w2.alloc (.cells #[.int .i64 0, .int .i64 0] 71)) (x.toNat : Int) _ (by simp)) (by simp [Value.oneCell']) (by unfold maxLen; simp; omega) (by simp; omega) (by have := HKF.out.size; simp at this ⊢; omega) ?_; intro v4 w4 hown4 hgrow4 _; obtain ⟨hr4, hk4⟩ := QuR.grow (N := []) (c := x) HROWF.out HKF.out hown4 hgrow4; have HR4 := Lib.hid hr4; have HK4 := Lib.hid hk4; clear hown4 hgrow4 hr4 hk4))
          go_roundg (L.length - (k + 2))
          case measure => have := HG.out; omega
          case rel => exact MO.out x 2 _ _ HQ.out (by omega) hk2 HR4.out HK4.out
        · exact absurd hq escL_close
        · rw [hq] at hes hiq
          have HES2 := Lib.hid hes
          have HZ : Hid (X = .bad 81 o) := Lib.hid (by rw [← HX.out, hd, quot_over hiq]; rfl)
          clear hes hd h2 e39 e92 hiq hq
          go_wp2_with fail
          refine (HES2.out _).mono ?_
          rintro e w2 ⟨rfl, hk2'⟩
          have HK2 := Lib.hid (HK.out.trans (hk2'.less fun i hi => Nat.lt_of_lt_of_le hi HK.out.size))
          have hblk2 := HB.out.keep HK2.out hpz
          have HBL2 := Lib.hid hblk2
          have g0 := hblk2.cell 0
          have g1 := hblk2.cell 1
          have y0 := hblk2.frozen 0
          have y1 := hblk2.frozen 1
          have hpr2 := hblk2.lt
          simp at g0 g1
          clear hk2' hblk2 f0 f1 z0 z1
          unfold EsR
          go_wp2_with fail
          go_region
          go_wp2_with fail
          have qq := (Blk.alloc (Blk.set_ (Blk.set_ HBL2.out 0 (.int .i64 81)) 1 (.int .i64 o)) (.cells #[.int .i64 81, .int .i64 o] 71))
          have q0 := qq.cell 0
          have q1 := qq.cell 1
          simp at q0 q1
          refine bodyPost_ret (v := .tuple #[.string ⟨#[]⟩, .int .i64 0, .agg #[.int .i64 81, .int .i64 o]]) (by simp [results, Tryz.results76, go_sem, q0, q1]) rfl ?_
          exact ⟨by rw [HZ.out]; rfl, ((keep_fault hpz HK0.out HK2.out _ _).alloc _).drew⟩
        · obtain rfl := escL_bad hq
          rw [hq] at hes hiq
          have HES2 := Lib.hid hes
          have HZ : Hid (X = .bad 82 k) := Lib.hid (by rw [← HX.out, hd, quot_bad hiq]; rfl)
          clear hes hd h2 e39 e92 hiq hq
          go_wp2_with fail
          refine (HES2.out _).mono ?_
          rintro e w2 ⟨rfl, hk2'⟩
          have HK2 := Lib.hid (HK.out.trans (hk2'.less fun i hi => Nat.lt_of_lt_of_le hi HK.out.size))
          have hblk2 := HB.out.keep HK2.out hpz
          have HBL2 := Lib.hid hblk2
          have g0 := hblk2.cell 0
          have g1 := hblk2.cell 1
          have y0 := hblk2.frozen 0
          have y1 := hblk2.frozen 1
          have hpr2 := hblk2.lt
          simp at g0 g1
          clear hk2' hblk2 f0 f1 z0 z1
          unfold EsR
          go_wp2_with fail
          go_region
          go_wp2_with fail
          have qq := (Blk.alloc (Blk.set_ (Blk.set_ HBL2.out 0 (.int .i64 82)) 1 (.int .i64 k)) (.cells #[.int .i64 82, .int .i64 k] 71))
          have q0 := qq.cell 0
          have q1 := qq.cell 1
          simp at q0 q1
          refine bodyPost_ret (v := .tuple #[.string ⟨#[]⟩, .int .i64 0, .agg #[.int .i64 82, .int .i64 k]]) (by simp [results, Tryz.results76, go_sem, q0, q1]) rfl ?_
          exact ⟨by rw [HZ.out]; rfl, ((keep_fault hpz HK0.out HK2.out _ _).alloc _).drew⟩
      have e92' : ((c.toNat : Int) == 92) = false := by simpa using e92
      have hin : inQ (c :: r) = if decide ((32 : Int) ≤ c.toNat) && decide ((c.toNat : Int) ≤ 126) then .byte c 1 else .bad 80 := by
        rw [inQ, eqInt c 92, eqInt c 39, show (((c.toNat : Nat) : Int) == (((92 : UInt8).toNat : Nat) : Int)) = false from e92', show (((c.toNat : Nat) : Int) == (((39 : UInt8).toNat : Nat) : Int)) = false from e39']
        rw [show (decide (32 ≤ c) && decide (c ≤ 126)) = (decide ((32 : Int) ≤ c.toNat) && decide ((c.toNat : Int) ≤ 126)) from of_all256 (f := fun c => decide (32 ≤ c) && decide (c ≤ 126)) (g := fun c => decide ((32 : Int) ≤ c.toNat) && decide ((c.toNat : Int) ≤ 126)) (by decide +kernel) c]
        rfl
      by_cases hm : (32 : Int) ≤ c.toNat ∧ (c.toNat : Int) ≤ 126
      · obtain ⟨hm1, hm2⟩ := hm
        have HQ : Hid (inQ (L.drop k) = .byte c 1) := Lib.hid (by rw [hd, hin]; simp [hm1, hm2])
        have e3 : ¬ (c.toNat : Int) < 32 := by omega
        have e4 : ¬ (126 : Int) < (c.toNat : Int) := by omega
        clear hd h2 hin e39 e92
        go_wp2_with (at_builtin; (refine wpList_append_own _ rfl _ _ 42 rfl W1.heap.size 5 i0 (.int .u8 0) 1 1 Tryz.underlying42 hi0 hz0 hz1 hz2 rfl (by decide) _ _ _ rfl (World.ownsRow.alloc HROW.out _) ⟨wr.heap.size, 0, none⟩ 1 1 [.int .u8 (c.toNat : Int)] rfl rfl (cell_one wr (c.toNat : Int) _ rfl) (by simp [Value.oneCell']) (by unfold maxLen; simp; omega) (by simp; omega) (by have := HK.out.size; simp; omega) ?_; intro v4 w4 hown4 hgrow4 _; obtain ⟨hr4, hk4⟩ := QuR.grow (N := []) (c := c) HROW.out HK.out hown4 hgrow4; have HR4 := Lib.hid hr4; have HK4 := Lib.hid hk4; clear hown4 hgrow4 hr4 hk4))
        go_roundg (L.length - (k + 1))
        case measure => have := HG.out; omega
        case rel => exact MO.out c 1 _ _ HQ.out (by omega) (by omega) HR4.out HK4.out
      · have HZ : Hid (X = .bad 80 k) := Lib.hid (by
          rw [← HX.out, hd, quot_bad (e := 80) (by rw [hin, if_neg (by simp; omega)])]; rfl)
        have hm' : (c.toNat : Int) < 32 ∨ (32 ≤ (c.toNat : Int) ∧ 126 < (c.toNat : Int)) := by omega
        clear hd h2 hin e39 e92 hm
        rcases hm' with hm' | ⟨hm', hm2⟩
        all_goals
          go_wp2_with fail
          refine bodyPost_ret (v := .tuple #[.string ⟨#[]⟩, .int .i64 0, .agg #[.int .i64 80, .int .i64 k]]) (by simp [results, Tryz.results76, go_sem, f0, f1]) rfl ?_
          exact ⟨by rw [HZ.out]; rfl, keep_fault hpz HK0.out HK.out _ _⟩
end Go.Proofs.YtfkbbbjicaedmaaGreatDoor
