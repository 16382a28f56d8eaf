/-
  The document's tokens (pythiaref08): blanks and remarks; an escape. No condition.
-/
import Derived.Test.YtjaaoljfkbbjpaaGreatDoorRx1
namespace Go.Proofs.YtjaaoljfkbbjpaaGreatDoor
open Go.RowKit Go.Shelf Go.Maps
set_option linter.unusedVariables false
set_option linter.unusedSimpArgs false

/-- What the document's skip answers. -/
def SkR (x : R Unit) : Value := match x with | .good _ n _ => .tuple #[.int .i64 n, .agg #[.int .i64 0, .int .i64 0]] | .bad c q => .tuple #[.int .i64 0, .agg #[.int .i64 c, .int .i64 q]]
theorem lineLen_cons (c : UInt8) (r : List UInt8) : lineLen (c :: r) = if (c != 10) then 1 + lineLen r else 0 := by
  unfold lineLen
  rw [List.takeWhile_cons]
  split
  · simp; omega
  · rfl
def SoRel (L : List UInt8) (X : R Unit) (W0 : World) (g : Nat) (i : Value) (wr : World) : Prop := ∃ k : Nat, k ≤ L.length ∧ g = L.length - k ∧ i = .int .i64 k ∧ skipL k (L.drop k) = X ∧ wr = W0
def SlRel (L : List UInt8) (k : Nat) (W0 : World) (g : Nat) (i : Value) (wr : World) : Prop := ∃ j : Nat, k ≤ j ∧ j ≤ L.length ∧ g = L.length - j ∧ i = .int .i64 j ∧ lineLen (L.drop k) = (j - k) + lineLen (L.drop j) ∧ wr = W0
def SrRel (L : List UInt8) (k : Nat) (W0 : World) (g : Nat) (i : Value) (wr : World) : Prop := ∃ j : Nat, k + 2 ≤ j ∧ j ≤ L.length ∧ g = L.length - j ∧ i = .int .i64 j ∧ remEnd (L.drop (k + 2)) = (remEnd (L.drop j)).map (· + (j - (k + 2))) ∧ wr = W0
theorem eqInt (c : UInt8) (n : UInt8) : (c == n) = ((c.toNat : Int) == (n.toNat : Int)) := by
  by_cases h : c = n
  · subst h; simp
  · have : ¬ (c.toNat : Int) = (n.toNat : Int) := fun e => h (UInt8.toNat_inj.1 (by omega))
    rw [beq_eq_false_iff_ne.2 h, beq_eq_false_iff_ne.2 this]
theorem remEnd_nilr : remEnd [] = none := rfl
theorem remEnd_one (c : UInt8) : remEnd [c] = none := by simp [remEnd]
theorem map_add (x : Option Nat) (a : Nat) : (x.map (· + 1)).map (· + a) = x.map (· + (a + 1)) := by cases x <;> simp; omega
set_option maxRecDepth 1000000 in
set_option maxHeartbeats 8000000 in
theorem rSkip_any (L : List UInt8) (a : Nat) (hl : L.length ≤ 16384) (ha : a ≤ L.length) (w : World) : Calls Tryz.prog 27 #[.string (str L), .int .i64 a] w fun e w' => e = .returned (SkR (skipL a (L.drop a))) ∧ Keep (· < w.heap.size) w w' := by
  have hs := str_size L
  have HGA := Lib.hid (fun k c r (h : L.drop k = c :: r) => str_getAt3 h)
  have HRM := Lib.hid (fun k (hk : k ≤ L.length) W => remark_any L k hl hk W)
  obtain ⟨s, hsl⟩ : ∃ s, str L = s := ⟨_, rfl⟩
  rw [hsl] at hs HGA HRM ⊢
  clear hsl
  obtain ⟨X, hX⟩ : ∃ X, skipL a (L.drop a) = X := ⟨_, rfl⟩
  rw [hX]
  obtain ⟨W0, hW0⟩ : ∃ W0, W0 = w.alloc (.cells #[.int .i64 0, .int .i64 0] 45) := ⟨_, rfl⟩
  have hb := Blk.new w 45 #[.int .i64 0, .int .i64 0]
  have hk0 := (Keep.refl (· < w.heap.size) w).alloc (.cells #[.int .i64 0, .int .i64 0] 45)
  have hz0 : (w.alloc (.cells #[.int .i64 0, .int .i64 0] 45)).heap.size = w.heap.size + 1 := by simp
  rw [← hW0] at hb hk0 hz0
  have f0 := hb.cell 0
  have f1 := hb.cell 1
  have z0 := hb.frozen 0
  have z1 := hb.frozen 1
  simp at f0 f1
  have HB := Lib.hid hb
  have HK0 := Lib.hid hk0
  have HR : Hid (SoRel L X W0 (L.length - a) (.int .i64 a) W0) := Lib.hid ⟨a, ha, rfl, rfl, hX, rfl⟩
  have HW := Lib.hid hW0
  have hpz : w.heap.size < W0.heap.size := by omega
  clear hX hb hk0 hz0
  go_enter Tryz.func27, Tryz.ntmps27
  go_wp2_with fail
  rw [← HW.out]
  clear hW0
  go_loopg [1] (L.length - a) (fun g i wr => SoRel L X W0 g i wr)
  case atStart => exact HR.out
  case round =>
    clear HR
    obtain ⟨k, hkl, hg, rfl, hx, rfl⟩ := hrel
    have HG := Lib.hid hg
    have HX := Lib.hid hx
    clear hg hx
    rcases hd : L.drop k with _ | ⟨c, r⟩
    · have h3 : L.length ≤ k := by simpa using hd
      have h4 : ¬ ((k : Int) < (L.length : Int)) := by omega
      have HZ : Hid (X = .good () k []) := Lib.hid (by rw [← HX.out, hd]; rfl)
      clear hd
      go_wp2_with fail
      refine bodyPost_ret (v := .tuple #[.int .i64 k, .agg #[.int .i64 0, .int .i64 0]]) (by simp [results, Tryz.results27, go_sem, f0, f1]) rfl ?_
      exact ⟨by rw [HZ.out]; rfl, (HK0.out.setCell (by simp) _).setCell (by simp) _⟩
    · obtain ⟨h1, h2, hks, hsk⟩ := HGA.out k c r hd
      have hrm := fun W => HRM.out k hkl W
      rw [hd] at hrm
      have h4 : ((k : Int) < (L.length : Int)) := by omega
      have HBL := Lib.hid (fun W => rBlank_any c W)
      unfold byteV at HBL
      have HD := Lib.hid hd
      have H2 := Lib.hid h2
      clear hd h2
      rcases hb : blankB c with _ | _
      · rw [hb] at HBL
        by_cases e37 : (c.toNat : Int) = 37
        · have e37' : ((c.toNat : Int) == 37) = true := by simpa using e37
          have HC := Lib.hid (show c = 37 from UInt8.toNat_inj.1 (by have : (37 : UInt8).toNat = 37 := rfl; omega))
          have HB2 := Lib.hid hb
          clear hrm hb e37
          go_wp2_with (go_at_call 46; refine (HBL.out _).mono ?_; rintro e w1 ⟨rfl, rfl⟩)
          clear e37' h4 hks hsk
          go_loopg [1] (L.length - k) (fun g i wr => SlRel L k w1 g i wr)
          case atStart => exact ⟨k, Nat.le_refl _, hkl, rfl, rfl, by omega, rfl⟩
          case round =>
            obtain ⟨j, hkj, hjl, hg, rfl, hf, rfl⟩ := hrel
            have HG2 := Lib.hid hg
            have HF := Lib.hid hf
            have HKJ := Lib.hid hkj
            clear hg hf hkj
            -- behind the line
            have next : lineLen (L.drop j) = 0 → SoRel L X wr (L.length - j) (.int .i64 j) wr := fun h0 => by
              have hx := HX.out
              rw [HD.out, skip_line HB2.out HC.out] at hx
              have hf := HF.out
              rw [h0, HD.out, lineLen_cons, if_pos (by rw [HC.out]; rfl)] at hf
              have := HKJ.out
              have e : k + (1 + lineLen r) = j := by omega
              have hdr : r.drop (lineLen r) = L.drop j := by rw [show j = (k + 1) + lineLen r by omega, ← List.drop_drop, H2.out]
              rw [e, hdr] at hx
              exact ⟨j, hjl, rfl, rfl, hx, rfl⟩
            have NX := Lib.hid next
            clear next
            rcases hd : L.drop j with _ | ⟨d, q⟩
            · have h3 : L.length ≤ j := by simpa using hd
              have h4 : ¬ ((j : Int) < (L.length : Int)) := by omega
              have NX2 := Lib.hid (NX.out (by rw [hd]; rfl))
              have HLT := Lib.hid (show L.length - j < L.length - k by have := HKJ.out; omega)
              clear hd
              go_wp2_with fail
              go_roundg (L.length - j)
              case measure => have := HG.out; have := HLT.out; omega
              case rel => exact NX2.out
            · obtain ⟨h1, h2, hjs, hsj⟩ := HGA.out j d q hd
              have h4 : ((j : Int) < (L.length : Int)) := by omega
              have hll := lineLen_cons d q
              by_cases e10 : (d.toNat : Int) = 10
              · have e10' : ((d.toNat : Int) == 10) = true := by simpa using e10
                have hd10 : d = 10 := UInt8.toNat_inj.1 (by have : (10 : UInt8).toNat = 10 := rfl; omega)
                rw [hd10] at hll
                have NX2 := Lib.hid (NX.out (by rw [hd, hd10]; exact hll))
                have HLT := Lib.hid (show k < j by
                  have := HKJ.out
                  rcases Nat.lt_or_ge k j with h | h
                  · exact h
                  · have : k = j := by omega
                    subst this
                    rw [HD.out] at hd
                    cases hd
                    have := HC.out
                    rw [hd10] at this
                    cases this)
                clear hd hd10 hll e10 h2
                go_wp2_with fail
                go_roundg (L.length - j)
                case measure => have := HG.out; have := HLT.out; omega
                case rel => exact NX2.out
              · have e10' : ((d.toNat : Int) == 10) = false := by simpa using e10
                have hd10 : (d != 10) = true := by
                  have : ¬ d = 10 := fun h => e10 (by rw [h]; rfl)
                  simpa using this
                rw [if_pos hd10] at hll
                have HL2 := Lib.hid hll
                have HD2 := Lib.hid hd
                have H22 := Lib.hid h2
                clear hd hd10 hll e10 h2
                go_wp2_with fail
                go_roundg (L.length - (j + 1))
                case measure => have := HG2.out; omega
                case rel => exact ⟨j + 1, by have := HKJ.out; omega, by omega, rfl, by go_num, by rw [HF.out, HD2.out, HL2.out, H22.out]; have := HKJ.out; omega, rfl⟩
        · have e37' : ((c.toNat : Int) == 37) = false := by simpa using e37
          have HC := Lib.hid (show c ≠ 37 from fun h => e37 (by rw [h]; rfl))
          have HB2 := Lib.hid hb
          rcases hrb : remB (c :: r) with _ | _
          · rw [hrb] at hrm
            have HZ : Hid (X = .good () k (c :: r)) := Lib.hid (by rw [← HX.out, HD.out, skip_end HB2.out HC.out hrb])
            have HRB := Lib.hid hrm
            clear hrm hb e37 hrb
            go_wp2_with (first | (go_at_call 46; refine (HBL.out _).mono ?_; rintro e w1 ⟨rfl, rfl⟩) | (go_at_call 47; refine (HRB.out _).mono ?_; rintro e w2 ⟨rfl, rfl⟩))
            refine bodyPost_ret (v := .tuple #[.int .i64 k, .agg #[.int .i64 0, .int .i64 0]]) (by simp [results, Tryz.results27, go_sem, f0, f1]) rfl ?_
            exact ⟨by rw [HZ.out]; rfl, (HK0.out.setCell (by simp) _).setCell (by simp) _⟩
          · rw [hrb] at hrm
            have HRB := Lib.hid hrm
            have HRE := Lib.hid hrb
            have hk2 : k + 2 ≤ L.length := by
              have hl2 := congrArg List.length HD.out
              rcases r with _ | ⟨d, r⟩
              · rw [show remB [c] = false from rfl] at hrb; cases hrb
              · simp at hl2; omega
            have HRD := Lib.hid (show r.drop 1 = L.drop (k + 2) by rw [← H2.out, List.drop_drop])
            clear hrm hb e37 hrb
            go_wp2_with (first | (go_at_call 46; refine (HBL.out _).mono ?_; rintro e w1 ⟨rfl, rfl⟩) | (go_at_call 47; refine (HRB.out _).mono ?_; rintro e w2 ⟨rfl, rfl⟩))
            clear e37' h4 hks hsk
            go_loopg [1] (L.length - (k + 2)) (fun g i wr => SrRel L k w2 g i wr)
            case atStart => exact ⟨k + 2, Nat.le_refl _, hk2, rfl, by go_num, by simp, rfl⟩
            case round =>
              obtain ⟨j, hkj, hjl, hg, rfl, hf, rfl⟩ := hrel
              have HG2 := Lib.hid hg
              have HF := Lib.hid hf
              have HKJ := Lib.hid hkj
              clear hg hf hkj
              have more : ∀ d q, L.drop j = d :: q → remEnd (L.drop j) = (remEnd (L.drop (j + 1))).map (· + 1) → SrRel L k wr (L.length - (j + 1)) (.int .i64 ((j : Int) + 1)) wr := fun d q hd he => by
                have hlt := (HGA.out j d q hd).1
                refine ⟨j + 1, by have := HKJ.out; omega, by omega, rfl, by go_num, ?_, rfl⟩
                rw [HF.out, he, map_add]
                have := HKJ.out
                congr 2
                funext x
                omega
              have MO := Lib.hid more
              clear more
              rcases hd : L.drop j with _ | ⟨d, q⟩
              · have h3 : L.length ≤ j := by simpa using hd
                have h4 : ¬ ((j : Int) + 1 < (L.length : Int)) := by omega
                have h5 : (L.length : Int) ≤ (j : Int) := by omega
                have HZ : Hid (X = .bad 81 k) := Lib.hid (by rw [← HX.out, HD.out, skip_open HB2.out HC.out HRE.out (by rw [HRD.out, HF.out, hd]; rfl)])
                clear hd
                go_wp2_with fail
                refine bodyPost_ret (v := .tuple #[.int .i64 0, .agg #[.int .i64 81, .int .i64 k]]) (by simp [results, Tryz.results27, go_sem, f0, f1]) rfl ?_
                exact ⟨by rw [HZ.out]; rfl, (HK0.out.setCell (by simp) _).setCell (by simp) _⟩
              · obtain ⟨h1, h2, hjs, hsj⟩ := HGA.out j d q hd
                have h5 : ¬ (L.length : Int) ≤ (j : Int) := by omega
                rcases q with _ | ⟨e, q⟩
                · have h3 : L.length ≤ j + 1 := by simpa using h2
                  have h4 : ¬ ((j : Int) + 1 < (L.length : Int)) := by omega
                  have MO2 := Lib.hid (MO.out d [] hd (by rw [hd, h2, remEnd_one]; rfl))
                  clear hd h2
                  go_wp2_with fail
                  go_roundg (L.length - (j + 1))
                  case measure => have := HG2.out; omega
                  case rel => exact MO2.out
                · obtain ⟨h3, h6, hjs2, hsj2⟩ := HGA.out (j + 1) e q h2
                  have h4 : ((j : Int) + 1 < (L.length : Int)) := by omega
                  have her : remEnd (d :: e :: q) = if d == 42 && e == 47 then some 0 else (remEnd (e :: q)).map (· + 1) := by rw [remEnd]; simp
                  by_cases e42 : (d.toNat : Int) = 42
                  · have e42' : ((d.toNat : Int) == 42) = true := by simpa using e42
                    by_cases e47 : (e.toNat : Int) = 47
                    · have e47' : ((e.toNat : Int) == 47) = true := by simpa using e47
                      have he0 : remEnd (L.drop j) = some 0 := by rw [hd, her, eqInt d 42, eqInt e 47]; simp [e42, e47]
                      have NX2 : Hid (SoRel L X wr (L.length - (j + 2)) (.int .i64 ((j : Int) + 2)) wr) := Lib.hid (by
                        have hx := HX.out
                        rw [HD.out, skip_rem (k := j - (k + 2)) HB2.out HC.out HRE.out (by rw [HRD.out, HF.out, he0]; simp)] at hx
                        have := HKJ.out
                        have hdr : r.drop (j - (k + 2) + 3) = L.drop (j + 2) := by rw [← H2.out, List.drop_drop]; congr 1; omega
                        rw [show k + (j - (k + 2) + 4) = j + 2 by omega, hdr] at hx
                        exact ⟨j + 2, by omega, rfl, by go_num, hx, rfl⟩)
                      have HKJ2 := HKJ.out
                      clear hd h2 her he0 e42 e47 h6
                      go_wp2_with fail
                      go_roundg (L.length - (j + 2))
                      case measure => have := HG.out; omega
                      case rel => exact NX2.out
                    · have e47' : ((e.toNat : Int) == 47) = false := by simpa using e47
                      have MO2 := Lib.hid (MO.out d (e :: q) hd (by rw [hd, h2, her, eqInt d 42, eqInt e 47, show (((e.toNat : Nat) : Int) == (((47 : UInt8).toNat : Nat) : Int)) = false from e47', Bool.and_false, if_neg (by simp)]))
                      clear hd h2 her e42 e47 h6
                      go_wp2_with fail
                      go_roundg (L.length - (j + 1))
                      case measure => have := HG2.out; omega
                      case rel => exact MO2.out
                  · have e42' : ((d.toNat : Int) == 42) = false := by simpa using e42
                    have MO2 := Lib.hid (MO.out d (e :: q) hd (by rw [hd, h2, her, eqInt d 42, show (((d.toNat : Nat) : Int) == (((42 : UInt8).toNat : Nat) : Int)) = false from e42', Bool.false_and, if_neg (by simp)]))
                    clear hd h2 her e42 h6
                    go_wp2_with fail
                    go_roundg (L.length - (j + 1))
                    case measure => have := HG2.out; omega
                    case rel => exact MO2.out
      · rw [hb] at HBL
        have NX : Hid (SoRel L X wr (L.length - (k + 1)) (.int .i64 ((k : Int) + 1)) wr) := Lib.hid (by
          have hx := HX.out
          rw [HD.out, skip_blank hb, ← H2.out] at hx
          exact ⟨k + 1, by omega, rfl, by go_num, hx, rfl⟩)
        clear hrm hb
        go_wp2_with (go_at_call 46; refine (HBL.out _).mono ?_; rintro e w1 ⟨rfl, rfl⟩)
        go_roundg (L.length - (k + 1))
        case measure => have := HG.out; omega
        case rel => exact NX.out
end Go.Proofs.YtjaaoljfkbbjpaaGreatDoor
