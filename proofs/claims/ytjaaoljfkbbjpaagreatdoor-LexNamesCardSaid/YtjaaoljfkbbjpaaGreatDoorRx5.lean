/-
  The document's tokens (pythiaref08): a number. No condition.
-/
import Derived.Test.YtjaaoljfkbbjpaaGreatDoorRx4
namespace Go.Proofs.YtjaaoljfkbbjpaaGreatDoor
open Go.RowKit Go.Shelf Go.Maps
set_option linter.unusedVariables false
set_option linter.unusedSimpArgs false

/-- What stands at a place where a digit stands. -/
def numL (a : Nat) (l : List UInt8) : R Tk := if codeB l then charL a l else digitsL a l
theorem digVal_snoc (l : List UInt8) (c : UInt8) : digVal (l ++ [c]) = 10 * digVal l + (c.toNat - 48) := by unfold digVal; rw [List.foldl_append]; rfl
theorem digVal_app (l m : List UInt8) : digVal l ≤ digVal (l ++ m) := by
  unfold digVal; rw [List.foldl_append]; exact digAcc_le m _
theorem take_more {L : List UInt8} {a k : Nat} {c : UInt8} {r : List UInt8} (hak : a ≤ k) (h : L.drop k = c :: r) : (L.drop a).take (k + 1 - a) = (L.drop a).take (k - a) ++ [c] := by
  have h3 : (L.drop a)[k - a]? = some c := by
    rw [List.getElem?_drop, show a + (k - a) = k by omega, ← List.head?_drop, h]; rfl
  rw [show k + 1 - a = (k - a) + 1 by omega, List.take_add_one, h3]; rfl
def NuRel (L : List UInt8) (a : Nat) (W1 : World) (g : Nat) (n i : Value) (wr : World) : Prop := ∃ (k v : Nat), a ≤ k ∧ k ≤ L.length ∧ g = L.length - k ∧ n = .int .i64 v ∧ i = .int .i64 k ∧ v ≤ 9223372036854775807 ∧ digVal ((L.drop a).take (k - a)) = v ∧ digLen (L.drop a) = (k - a) + digLen (L.drop k) ∧ wr = W1
set_option maxRecDepth 1000000 in
set_option maxHeartbeats 8000000 in
theorem rNumber_any (L : List UInt8) (a : Nat) (hl : L.length ≤ 16384) (ha : a < L.length) (w : World) : Calls Tryz.prog 52 #[.string (str L), .int .i64 a] w (NumP (numL a (L.drop a)) w) := by
  have hs := str_size L
  have HGA := Lib.hid (fun k c r (h : L.drop k = c :: r) => str_getAt3 h)
  have HCO := Lib.hid (fun (h : a + 2 ≤ L.length) W => rCode_any L a hl h W)
  obtain ⟨s, hsl⟩ : ∃ s, str L = s := ⟨_, rfl⟩
  rw [hsl] at hs HGA HCO ⊢
  clear hsl
  obtain ⟨X, hX⟩ : ∃ X, numL a (L.drop a) = X := ⟨_, rfl⟩
  rw [hX]
  have HX := Lib.hid hX
  obtain ⟨W1, hW1⟩ : ∃ W1, W1 = w.alloc (.cells #[.int .i64 0, .int .i64 0] 45) := ⟨_, rfl⟩
  have hb := Blk.new w 45 #[.int .i64 0, .int .i64 0]
  have hk0 := (Keep.refl (· < w.heap.size) w).alloc (.cells #[.int .i64 0, .int .i64 0] 45)
  have hz0' : (w.alloc (.cells #[.int .i64 0, .int .i64 0] 45)).heap.size = w.heap.size + 1 := by simp
  rw [← hW1] at hb hk0 hz0'
  have hpz : w.heap.size < W1.heap.size := by omega
  have HB := Lib.hid hb
  have HK0 := Lib.hid hk0
  have f0 := hb.cell 0
  have f1 := hb.cell 1
  have z0 := hb.frozen 0
  have z1 := hb.frozen 1
  simp at f0 f1
  have HW := Lib.hid hW1
  clear hb hk0 hX
  obtain ⟨c0, r0, hd0⟩ : ∃ c r, L.drop a = c :: r := by
    rcases hd : L.drop a with _ | ⟨c, r⟩
    · have h3 : L.length ≤ a := by simpa using hd
      omega
    · exact ⟨c, r, rfl⟩
  obtain ⟨h1, h2, hks, hsk⟩ := HGA.out a c0 r0 hd0
  by_cases hcd : codeB (c0 :: r0) = true
  · -- 0'
    obtain ⟨rfl, q, rfl⟩ : c0 = 48 ∧ ∃ q, r0 = 39 :: q := by
      rcases r0 with _ | ⟨d, q⟩
      · cases hcd
      · rw [show codeB (c0 :: d :: q) = (c0 == 48 && d == 39) from rfl] at hcd
        simp at hcd
        exact ⟨hcd.1, q, by rw [hcd.2]⟩
    obtain ⟨h3, h6, hks2, hsk2⟩ := HGA.out (a + 1) 39 q h2
    have h5 : ((a : Int) + 1 < (L.length : Int)) := by omega
    have hco := HCO.out (by omega)
    have HXX : Hid (X = charL a (L.drop a)) := Lib.hid (by rw [← HX.out]; unfold numL; rw [hd0, if_pos hcd])
    rw [← HXX.out] at hco
    have HC2 := Lib.hid hco
    have t48 : (((48 : UInt8).toNat : Nat) : Int) = 48 := rfl
    have t39 : (((39 : UInt8).toNat : Nat) : Int) = 39 := rfl
    clear hco hd0 h2 hcd h6
    go_enter Tryz.func52, Tryz.ntmps52
    go_wp2_with fail
    rw [← HW.out]
    clear hW1
    refine (HC2.out _).mono ?_
    rintro e w2 ⟨n, to, c, q, rfl, hk2, hm⟩
    have hblk2 := HB.out.keep hk2 hpz
    have g0 := hblk2.cell 0
    have g1 := hblk2.cell 1
    have y0 := hblk2.frozen 0
    have y1 := hblk2.frozen 1
    have hpr2 := hblk2.lt
    simp at g0 g1
    have HM := Lib.hid hm
    have HK2 := Lib.hid hk2
    clear hm hk2 hblk2 f0 f1 z0 z1
    go_wp2_with fail
    refine bodyPost_ret (v := .tuple #[.int .i64 n, .int .i64 to, .agg #[.int .i64 c, .int .i64 q]]) (by simp [results, Tryz.results52, go_sem, g0, g1]) rfl ?_
    exact ⟨_, _, _, _, rfl, keep_fault hpz HK0.out HK2.out _ _, HM.out⟩
  · have HNC := Lib.hid hcd
    have HXX : Hid (X = digitsL a (L.drop a)) := Lib.hid (by rw [← HX.out]; unfold numL; rw [hd0, if_neg hcd])
    have HR : Hid (NuRel L a W1 (L.length - a) (.int .i64 0) (.int .i64 a) W1) := Lib.hid ⟨a, 0, Nat.le_refl _, by omega, rfl, rfl, rfl, by omega, by simp [digVal], by omega, rfl⟩
    -- the guard: no 0'
    have hgd : ((c0.toNat : Int) == 48) = false ∨ (((c0.toNat : Int) == 48) = true ∧ ¬ ((a : Int) + 1 < (L.length : Int))) ∨ (((c0.toNat : Int) == 48) = true ∧ ((a : Int) + 1 < (L.length : Int)) ∧ ∃ (d : UInt8) (hk : a + 1 < s.size), s[a + 1]'hk = d ∧ ((d.toNat : Int) == 39) = false) := by
      rcases h48 : ((c0.toNat : Int) == 48) with _ | _
      · exact .inl rfl
      · refine .inr ?_
        rcases r0 with _ | ⟨d, q⟩
        · exact .inl ⟨rfl, by have : L.length ≤ a + 1 := by simpa using h2
                              omega⟩
        · obtain ⟨h3, h6, hks2, hsk2⟩ := HGA.out (a + 1) d q h2
          refine .inr ⟨rfl, by omega, d, hks2, hsk2, ?_⟩
          rw [show codeB (c0 :: d :: q) = (c0 == 48 && d == 39) from rfl, eqInt c0 48, eqInt d 39] at hcd
          rcases h39 : ((d.toNat : Int) == 39) with _ | _
          · rfl
          · exfalso
            apply hcd
            rw [show (((c0.toNat : Nat) : Int) == (((48 : UInt8).toNat : Nat) : Int)) = true from h48, show (((d.toNat : Nat) : Int) == (((39 : UInt8).toNat : Nat) : Int)) = true from h39]; rfl
    have loop : ∀ (Q : Exit → Act → World → Prop), True := fun _ => trivial
    clear loop hd0 h2 hcd
    rcases hgd with g1 | ⟨g1, g2⟩ | ⟨g1, g2, d, hkd, hsd, g3⟩
    all_goals
      go_enter Tryz.func52, Tryz.ntmps52
      go_wp2_with fail
      rw [← HW.out]
      clear hW1 hks hsk
      try clear hkd hsd
      try clear g2
      try clear g3
      clear g1
      go_loopg [7, 8] (L.length - a) (fun g n i wr => NuRel L a W1 g n i wr)
      case atStart => exact HR.out
      case round =>
        clear HR
        obtain ⟨k, v, hak, hkl, hg, rfl, rfl, hv, hdv, hdl, rfl⟩ := hrel
        have HG := Lib.hid hg
        have HAK := Lib.hid hak
        have HDV := Lib.hid hdv
        have HDL := Lib.hid hdl
        clear hg hak hdv hdl
        -- the end
        have over : digLen (L.drop k) = 0 → X = .good ⟨3, (L.drop a).take (k - a), v, false⟩ k (L.drop k) := fun h0 => by
          have e : digLen (L.drop a) = k - a := by rw [HDL.out, h0]; omega
          rw [HXX.out]
          unfold digitsL
          rw [e, HDV.out, if_neg (by omega), List.drop_drop]
          have := HAK.out
          rw [show a + (k - a) = k by omega]
        have OV := Lib.hid over
        clear over
        rcases hd : L.drop k with _ | ⟨c, r⟩
        · have h3 : L.length ≤ k := by simpa using hd
          have h4 : ¬ ((k : Int) < (L.length : Int)) := by omega
          have HZ := Lib.hid (OV.out (by rw [hd]; rfl))
          clear hd
          go_wp2_with fail
          refine bodyPost_ret (v := .tuple #[.int .i64 v, .int .i64 k, .agg #[.int .i64 0, .int .i64 0]]) (by simp [results, Tryz.results52, go_sem, f0, f1]) rfl ?_
          exact ⟨_, _, _, _, rfl, (HK0.out.setCell (by simp) _).setCell (by simp) _, by rw [HZ.out]; simp⟩
        · obtain ⟨h1, h2, hks, hsk⟩ := HGA.out k c r hd
          have h4 : ((k : Int) < (L.length : Int)) := by omega
          have hdc := dig_len_cons c r
          have HBL := Lib.hid (fun W => rDigit_any c W)
          unfold byteV at HBL
          have HD := Lib.hid hd
          have H2 := Lib.hid h2
          rcases hb : digB c with _ | _
          · rw [hb] at HBL hdc
            have HZ := Lib.hid (OV.out (by rw [hd, hdc]; rfl))
            clear hd h2 hb hdc
            go_wp2_with (go_at_call 51; refine (HBL.out _).mono ?_; rintro e w1 ⟨rfl, rfl⟩)
            refine bodyPost_ret (v := .tuple #[.int .i64 v, .int .i64 k, .agg #[.int .i64 0, .int .i64 0]]) (by simp [results, Tryz.results52, go_sem, f0, f1]) rfl ?_
            exact ⟨_, _, _, _, rfl, (HK0.out.setCell (by simp) _).setCell (by simp) _, by rw [HZ.out]; simp⟩
          · rw [hb] at HBL hdc
            have hr := dig_nat hb
            have HDC := Lib.hid hdc
            have HHB := Lib.hid hr
            have htk := take_more HAK.out hd
            have hvs : digVal ((L.drop a).take (k + 1 - a)) = 10 * v + (c.toNat - 48) := by rw [htk, digVal_snoc, HDV.out]
            have HVS := Lib.hid hvs
            clear hd h2 hb hdc htk hvs
            by_cases hle : (v : Int) ≤ (9223372036854775807 - ((c.toNat : Int) - 48)) / 10
            · have hle' : ¬ (9223372036854775807 - ((c.toNat : Int) - 48)) / 10 < (v : Int) := by omega
              go_wp2_with (go_at_call 51; refine (HBL.out _).mono ?_; rintro e w1 ⟨rfl, rfl⟩)
              go_roundg (L.length - (k + 1))
              case measure => have := HG.out; omega
              case rel => exact ⟨k + 1, 10 * v + (c.toNat - 48), by have := HAK.out; omega, by omega, rfl, by congr 1; omega, by go_num, by omega, HVS.out, by rw [HDL.out, HD.out, HDC.out, H2.out]; have := HAK.out; simp; omega, rfl⟩
            · have hle' : (9223372036854775807 - ((c.toNat : Int) - 48)) / 10 < (v : Int) := by omega
              have HZ : Hid (X = .bad 83 a) := Lib.hid (by
                rw [HXX.out]
                unfold digitsL
                have hdl := HDL.out
                have hak := HAK.out
                have e : (L.drop a).take (digLen (L.drop a)) = (L.drop a).take (k + 1 - a) ++ ((L.drop a).drop (k + 1 - a)).take (digLen (L.drop a) - (k + 1 - a)) := by
                  rw [HD.out, HDC.out] at hdl
                  simp at hdl
                  rw [← List.take_add, show k + 1 - a + (digLen (L.drop a) - (k + 1 - a)) = digLen (L.drop a) by omega]
                have h5 := digVal_app ((L.drop a).take (k + 1 - a)) (((L.drop a).drop (k + 1 - a)).take (digLen (L.drop a) - (k + 1 - a)))
                rw [← e, HVS.out] at h5
                exact if_pos (by omega))
              go_wp2_with (go_at_call 51; refine (HBL.out _).mono ?_; rintro e w1 ⟨rfl, rfl⟩)
              refine bodyPost_ret (v := .tuple #[.int .i64 0, .int .i64 0, .agg #[.int .i64 83, .int .i64 a]]) (by simp [results, Tryz.results52, go_sem, f0, f1]) rfl ?_
              exact ⟨_, _, _, _, rfl, (HK0.out.setCell (by simp) _).setCell (by simp) _, by rw [HZ.out]; simp⟩
end Go.Proofs.YtjaaoljfkbbjpaaGreatDoor
