/-
  The document's Bare is package lex's. Condition: none for the document's; the listed variables for package lex's.
-/
import Derived.Test.YtjaaoljfkbbjpaaGreatDoorRx10
namespace Go.Proofs.YtjaaoljfkbbjpaaGreatDoor
open Go.RowKit Go.Shelf Go.Maps
set_option linter.unusedVariables false
set_option linter.unusedSimpArgs false

set_option maxRecDepth 1000000 in
set_option maxHeartbeats 8000000 in
theorem rBare_any (L : List UInt8) (w : World) : Calls Tryz.prog 12 #[.string (str L)] w fun e w' => e = .returned (.bool (bareC L)) ∧ Keep (· < w.heap.size) w w' := by
  have HT := Lib.hid (fun W => rTokens_any L W)
  have hsl := str_list L
  have HBP := Lib.hid (fun (h : bareC L = true) => bare_plain h)
  obtain ⟨b, hb⟩ : ∃ b, bareC L = b := ⟨_, rfl⟩
  have hbd : b = bareR L (tokens L) := hb.symm
  rw [hb] at HBP ⊢
  obtain ⟨s, hs⟩ : ∃ s, str L = s := ⟨_, rfl⟩
  rw [hs] at HT hsl ⊢
  clear hs hb
  have ht := HT.out w
  rcases hx : tokens L with ⟨c, q⟩ | ⟨ts, n, r⟩
  · rw [hx] at ht hbd
    have HT1 := Lib.hid ht
    obtain rfl : b = false := hbd
    clear ht hx
    go_enter Tryz.func12, Tryz.ntmps12
    go_wp2_with fail
    refine HT1.out.mono ?_
    rintro e w1 ⟨c', q', hcz, rfl, hk1⟩
    have hcz' : (c' == 0) = false := beq_eq_false_iff_ne.2 hcz
    have HK1 := Lib.hid hk1
    clear hk1 HT HT1
    go_wp2_with fail
    go_ret
    exact ⟨rfl, HK1.out.alloc _⟩
  · rw [hx] at ht hbd
    have HT1 := Lib.hid ht
    have HX := Lib.hid hx
    clear ht hx
    go_enter Tryz.func12, Tryz.ntmps12
    go_wp2_with fail
    refine HT1.out.mono ?_
    rintro e w1 ⟨v, rfl, hta, hk1⟩
    have HK1 := Lib.hid hk1
    obtain ⟨a, c, rfl, hc⟩ := hta.sl
    clear hk1 HT HT1 hta
    by_cases h1 : ts.length = 1
    · obtain ⟨t, rfl⟩ := List.length_eq_one_iff.1 h1
      obtain ⟨g, o, rfl, _, hg, d0, d1, d2, d3, d4, d5⟩ := hc 0 t rfl
      have hbt := str_list t.tk.text
      simp only [List.length_cons, List.length_nil]
      simp only [Nat.zero_mul, Nat.add_zero] at d0 d1 d4
      have hbv : b = ((t.tk.kind == 1) && (t.tk.text == L)) := hbd
      have HBV := Lib.hid hbv
      have hqd : b = true → t.tk.quoted = false := fun h => by
        obtain ⟨u, n', r', h7, _, _, hq⟩ := HBP.out h
        rw [HX.out] at h7
        injection h7 with h8
        injection h8 with h9
        rw [h9]; exact hq
      have HQD := Lib.hid hqd
      clear hc h1 hbd hbv hqd d2 d3 d5
      generalize str t.tk.text = s1 at *
      obtain ⟨qd, hqd⟩ : ∃ qd, t.tk.quoted = qd := ⟨_, rfl⟩
      rw [hqd] at d4 HQD
      by_cases hk : t.tk.kind = 1
      · have hk' : ((t.tk.kind : Int) = 1) := by omega
        cases qd
        · go_wp2_with fail
          go_ret
          refine ⟨?_, HK1.out.alloc _⟩
          rw [HBV.out]
          simp [hk]
        · go_wp2_with fail
          go_ret
          refine ⟨?_, HK1.out.alloc _⟩
          have : b = false := by
            cases b
            · rfl
            · exact absurd (HQD.out rfl) (by simp)
          rw [this]; rfl
      · have hk' : ¬ ((t.tk.kind : Int) = 1) := by omega
        go_wp2_with fail
        go_ret
        refine ⟨?_, HK1.out.alloc _⟩
        rw [HBV.out]
        simp [hk]
    · have h1' : ((ts.length : Int) == 1) = false := beq_eq_false_iff_ne.2 (by omega)
      obtain rfl : b = false := by
        rw [hbd]
        rcases ts with _ | ⟨t, _ | ⟨t', ts⟩⟩
        · rfl
        · exact absurd rfl h1
        · rfl
      clear hc hbd
      go_wp2_with fail
      go_ret
      exact ⟨rfl, HK1.out.alloc _⟩
set_option maxRecDepth 1000000 in
set_option maxHeartbeats 8000000 in
theorem namesLaw_any (L : List UInt8) (c : UInt8) {w : World} (hv : LxVars w) : Calls Tryz.prog 3 #[.string (str L), byteV c] w fun e w' => e = .returned (.bool true) ∧ Below w.heap.size w w' := by
  have HAL := Lib.hid (alive_any hv)
  have HV := Lib.hid hv
  have HB := Lib.hid (fun (W : World) (h : LxVars W) => bare_any L h)
  have HR := Lib.hid (fun (W : World) => rBare_any L W)
  have HS := Lib.hid (fun (W : World) => sign_any c W)
  have HT := Lib.hid (fun (W : World) => rSign_any c W)
  unfold byteV at HS HT ⊢
  generalize str L = s at *
  generalize bareC L = b at *
  generalize signB c = d at *
  generalize (c.toNat : Int) = n at *
  go_enter Tryz.func3, Tryz.ntmps3
  go_wp2_with fail
  refine HAL.out.mono ?_
  rintro e w1 ⟨rfl, hb1⟩
  have HB1 := Lib.hid hb1
  have HV1 := Lib.hid (HV.out.below hb1)
  clear hb1 HAL
  go_wp2_with fail
  refine (HB.out _ HV1.out).mono ?_
  rintro e w2 ⟨rfl, hb2⟩
  have HB2 := Lib.hid (below_next HB1.out hb2)
  clear hb2 HB
  go_wp2_with fail
  refine (HR.out _).mono ?_
  rintro e w3 ⟨rfl, hk3⟩
  have HB3 := Lib.hid (below_next HB2.out (hk3.toBelow (fun _ h => h) (Nat.le_refl _)))
  clear hk3 HR
  go_wp2_with fail
  refine (HS.out _).mono ?_
  rintro e w4 ⟨rfl, rfl⟩
  go_wp2_with fail
  refine (HT.out _).mono ?_
  rintro e w5 ⟨rfl, hk5⟩
  have HB5 := Lib.hid (below_next HB3.out (hk5.toBelow (fun _ h => h) (Nat.le_refl _)))
  clear hk5 HT
  go_wp2_with fail
  go_ret
  exact ⟨by simp, HB5.out⟩
end Go.Proofs.YtjaaoljfkbbjpaaGreatDoor
