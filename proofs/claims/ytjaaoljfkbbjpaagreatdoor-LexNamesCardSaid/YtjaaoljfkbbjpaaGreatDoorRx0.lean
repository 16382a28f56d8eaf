/-
  The document's tokens (pythiaref08): which kind a byte is, a remark, a full stop, where letters end. No condition.
-/
import Derived.Test.YtjaaoljfkbbjpaaGreatDoorLx28
import Derived.Lib.SmallJoins
namespace Go.Proofs.YtjaaoljfkbbjpaaGreatDoor
open Go.RowKit Go.Shelf Go.Maps
set_option linter.unusedVariables false
set_option linter.unusedSimpArgs false

theorem blank_int (c : UInt8) : blankB c = (decide ((c.toNat : Int) = 9) || (decide ((c.toNat : Int) = 10) || (decide ((c.toNat : Int) = 13) || decide ((c.toNat : Int) = 32)))) := by
  exact of_all256 (f := blankB) (g := fun c => (decide ((c.toNat : Int) = 9) || (decide ((c.toNat : Int) = 10) || (decide ((c.toNat : Int) = 13) || decide ((c.toNat : Int) = 32))))) (by decide +kernel) c
set_option maxRecDepth 100000 in
theorem rBlank_any (c : UInt8) (w : World) : Calls Tryz.prog 46 #[byteV c] w fun e w' => e = .returned (.bool (blankB c)) ∧ w' = w := by
  have hb := blank_int c
  unfold byteV
  generalize (c.toNat : Int) = n at *
  generalize blankB c = b at *
  have h1 : (n == 9) = decide (n = 9) := rfl
  by_cases e1 : n = 9
  · obtain rfl : b = true := by rw [hb]; simp [e1]
    have e1' : (n == 9) = true := by simpa using e1
    clear hb h1 e1
    go_enter Tryz.func46, Tryz.ntmps46
    go_wp2
    go_ret
    exact ⟨rfl, rfl⟩
  have e1' : (n == 9) = false := by simpa using e1
  by_cases e2 : n = 10
  · obtain rfl : b = true := by rw [hb]; simp [e2]
    have e2' : (n == 10) = true := by simpa using e2
    clear hb h1 e1 e2
    go_enter Tryz.func46, Tryz.ntmps46
    go_wp2
    go_ret
    exact ⟨rfl, rfl⟩
  have e2' : (n == 10) = false := by simpa using e2
  by_cases e3 : n = 13
  · obtain rfl : b = true := by rw [hb]; simp [e3]
    have e3' : (n == 13) = true := by simpa using e3
    clear hb h1 e1 e2 e3
    go_enter Tryz.func46, Tryz.ntmps46
    go_wp2
    go_ret
    exact ⟨rfl, rfl⟩
  have e3' : (n == 13) = false := by simpa using e3
  obtain rfl : b = (n == 32) := by rw [hb]; simp [e1, e2, e3]; rfl
  clear hb h1 e1 e2 e3
  go_enter Tryz.func46, Tryz.ntmps46
  go_wp2
  go_ret
  exact ⟨rfl, rfl⟩
set_option maxRecDepth 100000 in
theorem rSmall_any (c : UInt8) (w : World) : Calls Tryz.prog 48 #[byteV c] w fun e w' => e = .returned (.bool (smallB c)) ∧ w' = w := by
  have hb := small_int c
  unfold byteV
  generalize (c.toNat : Int) = n at *
  by_cases h1 : (97 : Int) ≤ n
  · have hb2 : smallB c = decide (n ≤ 122) := by rw [hb]; simp [h1]
    rw [hb2]
    go_enter Tryz.func48, Tryz.ntmps48
    go_wp2
    go_ret
    exact ⟨rfl, rfl⟩
  · have hb2 : smallB c = false := by rw [hb]; simp [h1]
    rw [hb2]
    go_enter Tryz.func48, Tryz.ntmps48
    go_wp2
    go_ret
    exact ⟨rfl, rfl⟩
set_option maxRecDepth 100000 in
theorem rDigit_any (c : UInt8) (w : World) : Calls Tryz.prog 51 #[byteV c] w fun e w' => e = .returned (.bool (digB c)) ∧ w' = w := by
  have hb := dig_int c
  unfold byteV
  generalize (c.toNat : Int) = n at *
  by_cases h1 : (48 : Int) ≤ n
  · have hb2 : digB c = decide (n ≤ 57) := by rw [hb]; simp [h1]
    rw [hb2]
    go_enter Tryz.func51, Tryz.ntmps51
    go_wp2
    go_ret
    exact ⟨rfl, rfl⟩
  · have hb2 : digB c = false := by rw [hb]; simp [h1]
    rw [hb2]
    go_enter Tryz.func51, Tryz.ntmps51
    go_wp2
    go_ret
    exact ⟨rfl, rfl⟩
set_option maxRecDepth 100000 in
theorem rCapital_any (c : UInt8) (w : World) : Calls Tryz.prog 50 #[byteV c] w fun e w' => e = .returned (.bool (capB c)) ∧ w' = w := by
  have hb := cap_int c
  unfold byteV
  generalize (c.toNat : Int) = n at *
  by_cases h1 : (65 : Int) ≤ n
  · by_cases h2 : n ≤ 90
    · have hb2 : capB c = true := by rw [hb]; simp [h1, h2]
      rw [hb2]
      go_enter Tryz.func50, Tryz.ntmps50
      go_wp2
      go_ret
      exact ⟨rfl, rfl⟩
    · have hb2 : capB c = decide (n = 95) := by rw [hb]; simp [h2]
      rw [hb2]
      go_enter Tryz.func50, Tryz.ntmps50
      go_wp2
      go_ret
      exact ⟨rfl, rfl⟩
  · have hb2 : capB c = decide (n = 95) := by rw [hb]; simp [h1]
    rw [hb2]
    go_enter Tryz.func50, Tryz.ntmps50
    go_wp2
    go_ret
    exact ⟨rfl, rfl⟩
set_option maxRecDepth 100000 in
set_option maxHeartbeats 1000000 in
theorem rLetter_any (c : UInt8) (w : World) : Calls Tryz.prog 69 #[byteV c] w fun e w' => e = .returned (.bool (letB c)) ∧ w' = w := by
  have h1 := fun W => rSmall_any c W
  have h2 := fun W => rCapital_any c W
  have h3 := fun W => rDigit_any c W
  have hl : (smallB c || (capB c || digB c)) = letB c := rfl
  unfold byteV at *
  generalize (c.toNat : Int) = n at *
  generalize letB c = l at *
  generalize smallB c = a at *
  generalize capB c = b at *
  generalize digB c = d at *
  subst hl
  go_enter Tryz.func69, Tryz.ntmps69
  cases a <;> cases b <;>
  · go_wp2_with (first
      | (go_at_call 48; refine (h1 _).mono ?_; rintro e w' ⟨rfl, rfl⟩)
      | (go_at_call 50; refine (h2 _).mono ?_; rintro e w' ⟨rfl, rfl⟩)
      | (go_at_call 51; refine (h3 _).mono ?_; rintro e w' ⟨rfl, rfl⟩))
    go_ret
    exact ⟨by simp, rfl⟩


theorem str_getAt3 {L : List UInt8} {k : Nat} {c : UInt8} {r : List UInt8} (h : L.drop k = c :: r) : k < L.length ∧ L.drop (k + 1) = r ∧ ∃ hk : k < (str L).size, (str L)[k]'hk = c := by
  obtain ⟨a, b, d⟩ := str_at h
  have hk : k < (str L).size := by rw [str_size]; exact a
  exact ⟨a, b, hk, d hk⟩
set_option maxRecDepth 100000 in
set_option maxHeartbeats 1000000 in
theorem remark_any (L : List UInt8) (k : Nat) (hl : L.length ≤ 16384) (hk : k ≤ L.length) (w : World) : Calls Tryz.prog 47 #[.string (str L), .int .i64 k] w fun e w' => e = .returned (.bool (remB (L.drop k))) ∧ w' = w := by
  have hs := str_size L
  rcases hd : L.drop k with _ | ⟨c, r⟩
  · have h3 : L.length ≤ k := by simpa using hd
    have h4 : ¬ ((k : Int) + 1 < (L.length : Int)) := by omega
    generalize str L = s at *
    rw [show remB [] = false from rfl]
    clear hd
    go_enter Tryz.func47, Tryz.ntmps47
    go_wp2
    go_ret
    exact ⟨rfl, rfl⟩
  obtain ⟨h1, h2, hk1, hg1⟩ := str_getAt3 hd
  rcases r with _ | ⟨d, r⟩
  · have h3 : L.length ≤ k + 1 := by simpa using h2
    have h4 : ¬ ((k : Int) + 1 < (L.length : Int)) := by omega
    generalize str L = s at *
    rw [show remB [c] = false from rfl]
    clear hd hg1 h2
    go_enter Tryz.func47, Tryz.ntmps47
    go_wp2
    go_ret
    exact ⟨rfl, rfl⟩
  obtain ⟨h3, _, hk2, hg2⟩ := str_getAt3 h2
  have h4 : ((k : Int) + 1 < (L.length : Int)) := by omega
  rw [show remB (c :: d :: r) = (c == 47 && d == 42) from rfl]
  rw [show (c == 47) = decide ((c.toNat : Int) = 47) from of_all256 (f := fun c => c == 47) (g := fun c => decide ((c.toNat : Int) = 47)) (by decide +kernel) c, show (d == 42) = decide ((d.toNat : Int) = 42) from of_all256 (f := fun c => c == 42) (g := fun c => decide ((c.toNat : Int) = 42)) (by decide +kernel) d]
  generalize str L = s at *
  clear hd h2
  by_cases e1 : (c.toNat : Int) = 47
  · rw [decide_eq_true e1]
    have e1' : ((c.toNat : Int) == 47) = true := by simpa using e1
    go_enter Tryz.func47, Tryz.ntmps47
    go_wp2
    go_ret
    exact ⟨rfl, rfl⟩
  · rw [decide_eq_false e1]
    have e1' : ((c.toNat : Int) == 47) = false := by simpa using e1
    go_enter Tryz.func47, Tryz.ntmps47
    go_wp2
    go_ret
    exact ⟨by simp, rfl⟩
def behB : List UInt8 → Bool
  | [] => true
  | d :: _ => blankB d || decide ((d.toNat : Int) = 37)
theorem stop_eq (c : UInt8) (r : List UInt8) : stopB (c :: r) = (decide ((c.toNat : Int) = 46) && behB r) := by
  rw [show decide ((c.toNat : Int) = 46) = (c == 46) from (of_all256 (f := fun c => c == 46) (g := fun c => decide ((c.toNat : Int) = 46)) (by decide +kernel) c).symm]
  cases r with
  | nil => rfl
  | cons d r =>
    rw [show behB (d :: r) = (blankB d || decide ((d.toNat : Int) = 37)) from rfl, show decide ((d.toNat : Int) = 37) = (d == 37) from (of_all256 (f := fun c => c == 37) (g := fun c => decide ((c.toNat : Int) = 37)) (by decide +kernel) d).symm]
    rfl
set_option maxRecDepth 100000 in
set_option maxHeartbeats 1000000 in
theorem stop_any (L : List UInt8) (k : Nat) (hl : L.length ≤ 16384) {c : UInt8} {r : List UInt8} (hd : L.drop k = c :: r) (w : World) : Calls Tryz.prog 54 #[.string (str L), .int .i64 k] w fun e w' => e = .returned (.bool (stopB (c :: r))) ∧ w' = w := by
  have hs := str_size L
  obtain ⟨h1, h2, hk1, hg1⟩ := str_getAt3 hd
  rw [stop_eq]
  by_cases e1 : (c.toNat : Int) = 46
  · rw [decide_eq_true e1]
    have e1' : ((c.toNat : Int) == 46) = true := by simpa using e1
    rcases r with _ | ⟨d, r⟩
    · have h3 : L.length ≤ k + 1 := by simpa using h2
      have h4 : (L.length : Int) ≤ (k : Int) + 1 := by omega
      generalize str L = s at *
      clear hd h2
      go_enter Tryz.func54, Tryz.ntmps54
      go_wp2
      go_ret
      exact ⟨rfl, rfl⟩
    obtain ⟨h3, _, hk2, hg2⟩ := str_getAt3 h2
    have h4 : ¬ ((L.length : Int) ≤ (k : Int) + 1) := by omega
    have hb := fun W => rBlank_any d W
    unfold byteV at hb
    rw [show behB (d :: r) = (blankB d || decide ((d.toNat : Int) = 37)) from rfl]
    generalize str L = s at *
    clear hd h2
    rcases hbd : blankB d with _ | _
    all_goals
      rw [hbd] at hb
      go_enter Tryz.func54, Tryz.ntmps54
      go_wp2_with (go_at_call 46; refine (hb _).mono ?_; rintro e w' ⟨rfl, rfl⟩)
      go_ret
      exact ⟨rfl, rfl⟩
  · rw [decide_eq_false e1]
    have e1' : ((c.toNat : Int) == 46) = false := by simpa using e1
    generalize str L = s at *
    clear hd h2
    go_enter Tryz.func54, Tryz.ntmps54
    go_wp2
    go_ret
    exact ⟨by simp, rfl⟩
/-- The document's signs, one by one. -/
def sgnL : List UInt8 := [43, 45, 42, 47, 92, 94, 60, 62, 61, 126, 58, 46, 63, 64, 35, 38, 36]
def SgRel (c : UInt8) (w : World) (g : Nat) (i : Value) (wr : World) : Prop := ∃ k : Nat, k ≤ 17 ∧ g = 17 - k ∧ i = .int .i64 k ∧ (sgnL.take k).contains c = false ∧ wr = w.alloc (.cells (sgnL.map byteV).toArray 5 (17, 18))
set_option maxRecDepth 100000 in
set_option maxHeartbeats 1000000 in
theorem rSign_any (c : UInt8) (w : World) : Calls Tryz.prog 14 #[byteV c] w fun e w' => e = .returned (.bool (signB c)) ∧ Keep (· < w.heap.size) w w' := by
  have HK := Lib.hid ((Keep.refl (· < w.heap.size) w).alloc (.cells (sgnL.map byteV).toArray 5 (17, 18)))
  have kc := fun (w : World) (C : Array Value) (n c : Nat) => Lib.run_convert_bytes_const (P := Tryz.prog) w 38 5 C n c Tryz.underlying38 Tryz.underlying5
  have hsg : signB c = sgnL.contains c := rfl
  have HSG := Lib.hid hsg
  clear hsg
  generalize signB c = b at *
  have HAT := Lib.hid (fun (d : UInt8) => show (d = c) ↔ (d.toNat : Int) = (c.toNat : Int) from ⟨fun h => by rw [h], fun h => UInt8.toNat_inj.1 (by omega)⟩)
  unfold byteV
  go_enter Tryz.func14, Tryz.ntmps14
  go_wp2_with fail
  go_loopg [8] 17 (fun g i wr => SgRel c w g i wr)
  case atStart => exact ⟨0, by omega, rfl, rfl, rfl, rfl⟩
  case round =>
    obtain ⟨k, hk, hg, rfl, hc, hW⟩ := hrel
    have HC := Lib.hid hc
    have hcl := fun j => World.cell?_alloc_mark w (sgnL.map byteV).toArray 5 (17, 18) j
    rw [← hW] at HK hcl
    have HKP := HK
    have HW := Lib.hid hW
    have HG := Lib.hid hg
    have hlt : w.heap.size < wr.heap.size := by rw [hW]; simp
    have HCL := Lib.hid hcl
    clear hc hg hcl hW HK
    by_cases hkn : k < 17
    · obtain ⟨d, hd⟩ : ∃ d, sgnL[k]? = some d := ⟨_, List.getElem?_eq_getElem (by exact hkn)⟩
      have hcell : wr.cell? ⟨w.heap.size, k, none⟩ = some (.int .u8 (d.toNat : Int)) := by rw [HCL.out]; simp [hd, byteV]
      have htk : sgnL.take (k + 1) = sgnL.take k ++ [d] := by rw [List.take_add_one, hd]; rfl
      have HTK := Lib.hid htk
      have HD := Lib.hid hd
      have hdc := HAT.out d
      have hkn' : (k : Int) < 17 := by omega
      clear htk hd
      by_cases e : (d.toNat : Int) = (c.toNat : Int)
      · have e' : ((d.toNat : Int) == (c.toNat : Int)) = true := by simpa using e
        have HE := Lib.hid (hdc.2 e)
        clear hdc e
        go_wp2_with fail
        go_ret
        refine ⟨?_, HKP.out⟩
        rw [HSG.out, show sgnL.contains c = true from by rw [List.contains_iff_mem]; rw [← HE.out]; exact List.mem_of_getElem? HD.out]
        rfl
      · have e' : ((d.toNat : Int) == (c.toNat : Int)) = false := by simpa using e
        have HE := Lib.hid (fun h => e (hdc.1 h))
        clear hdc e
        go_wp2_with fail
        go_roundg (17 - (k + 1))
        case measure => have := HG.out; omega
        case rel => exact ⟨k + 1, by omega, rfl, by go_num, by
          have h := HC.out
          rw [HTK.out]
          simp only [List.contains_append, h, Bool.false_or, List.contains_cons, List.contains_nil, Bool.or_false]
          exact beq_eq_false_iff_ne.2 (fun h => HE.out h.symm), HW.out⟩
    · have hkn' : ¬ (k : Int) < 17 := by omega
      obtain rfl : k = 17 := by omega
      have HZ : Hid (b = false) := Lib.hid (by rw [HSG.out]; exact HC.out)
      go_wp2_with fail
      go_ret
      refine ⟨by rw [HZ.out]; rfl, HKP.out⟩
end Go.Proofs.YtjaaoljfkbbjpaaGreatDoor
