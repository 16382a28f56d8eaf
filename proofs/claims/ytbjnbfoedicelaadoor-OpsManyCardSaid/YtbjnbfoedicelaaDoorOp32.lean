/-
  OpsMany: the law's walk. No condition but what the two package-level variables hold.
-/
import Derived.Test.YtbjnbfoedicelaaDoorOp31
import Derived.Laws.BitsLemmas
namespace Go.Proofs.YtbjnbfoedicelaaDoor
open Go.RowKit Go.Shelf Go.Maps
set_option linter.unusedVariables false
set_option linter.unusedSimpArgs false

theorem nMore_eq : str nMore = ⟨#[109, 111, 114, 101]⟩ := rfl
theorem cat_num (i : Nat) (W : World) : (Op.stringOp .add ⟨#[110]⟩ (str (digs i))).run Tryd.prog W = .ok (.string (str (num i))) W := by
  have := digs_length i
  rw [show (⟨#[110]⟩ : ByteArray) = str [110] from rfl, run_string_add_sum W _ _ (by rw [str_size, str_size]; simp only [List.length_cons, List.length_nil]; omega), app_str]
  rfl
theorem LastAt.boxedV {w W : World} {pb mb : Nat} {T : Tab} {bs : List (Nat × Opv)} (h : LastAt w W pb mb T bs) (nm : List UInt8) (ty pr : Int) : LastAt w (W.alloc (.cells #[.string (str nm), .int .i64 ty, .int .i64 pr] 27)) pb mb T ((W.heap.size, ⟨nm, ty, pr⟩) :: bs) := h.boxed ⟨nm, ty, pr⟩
theorem fits_of {nm : List UInt8} {ty pr : Int} (h : nm.length ≤ 64) (h1 : (Lit.int .i64 ty).wf = true) (h2 : (Lit.int .i64 pr).wf = true) : Fits ⟨nm, ty, pr⟩ := ⟨by unfold maxLen; show nm.length ≤ _; omega, h1, h2⟩
set_option maxRecDepth 1000000 in
set_option maxHeartbeats 8000000 in
/-- An operator that is no right one. -/
theorem manyBad_any (ty pr gone : Int) (w : World) (hv : VarsOk w) (h1 : (Lit.int .i64 ty).wf = true) (h2 : (Lit.int .i64 pr).wf = true) (hbad : ty < 1 ∨ 7 < ty ∨ pr < 1 ∨ 1200 < pr) :
    Calls Tryd.prog 6 #[.int .i64 ty, .int .i64 pr, .int .i64 gone] w fun e w' => e = .returned (.bool true) ∧ Below w.heap.size w w' := by
  have HV := Lib.hid hv
  clear hv
  have hw := check_wrong tab0 [122, 122] ty pr hbad
  have HW := Lib.hid hw
  have HF := Lib.hid (fits_of (nm := [122, 122]) (by decide) h1 h2)
  clear hw h1 h2
  have hcs : (ty < 1) ∨ (¬ ty < 1 ∧ 7 < ty) ∨ (¬ ty < 1 ∧ ¬ 7 < ty ∧ pr < 1) ∨ (¬ ty < 1 ∧ ¬ 7 < ty ∧ ¬ pr < 1 ∧ 1200 < pr) := by omega
  clear hbad
  go_enter Tryd.func6, Tryd.ntmps6
  go_wp2_with fail
  refine (new_any _ HV.out).mono ?_
  rintro e w1 ⟨pb, mb, rfl, ht, hlp, hlm, hb⟩
  have hV1 : VarsOk w1 := HV.out.keep (Keep.ofBelow (X := (· < w.heap.size)) hb (fun _ h => h)) HV.out.lt.1 HV.out.lt.2
  have HV1 := Lib.hid hV1
  have H1 : Hid (LastAt w w1 pb mb tab0 []) := Lib.hid ⟨ht, al5.2.2.1, hb, hlm, fun x hx => by cases hx⟩
  clear ht hlp hlm hb hV1
  go_wp2_with fail
  refine (alive_any w1 HV1.out).mono ?_
  rintro e w2 ⟨rfl, hb2⟩
  have hk2 : Keep (fun _ => True) w1 w2 := (Keep.ofBelow (X := (· < w1.heap.size)) hb2 (fun _ h => h)).all
  have H2 := Lib.hid (H1.out.keep hk2)
  clear hb2 hk2 H1
  have HC := Lib.hid (H2.out.add HF.out)
  simp only [opVal] at HC
  rw [show str [122, 122] = (⟨#[122, 122]⟩ : ByteArray) from rfl] at HC
  generalize checkV tab0 ⟨[122, 122], ty, pr⟩ = cv at HC HW
  rcases hcs with h | ⟨h, h'⟩ | ⟨h, h', h''⟩ | ⟨h, h', h'', h'''⟩
  all_goals
    go_wp2_with fail
    refine HC.out.mono ?_
    rintro e w3 ⟨rfl, h3⟩
    have HB := Lib.hid h3.below
    clear h3
    by_cases hc : cv = 0
    · have hp : pr = 0 := by rcases HW.out with h9 | h9; exact absurd hc h9; exact h9
      subst hc hp
      first
        | (exfalso; omega)
        | (go_wp2_with fail
           go_ret
           exact ⟨rfl, HB.out⟩)
    · go_wp2_with fail
      go_ret
      exact ⟨rfl, HB.out⟩
theorem i64_and63 (n : Int) : bits .and .i64 n 63 = n % 64 := by
  have h63 : (BitVec.ofInt 64 63).toNat = 2 ^ 6 - 1 := by decide
  have key : (BitVec.ofInt 64 n &&& BitVec.ofInt 64 63).toNat = (n % ((2 ^ 64 : Nat) : Int)).toNat % 2 ^ 6 := by
    rw [BitVec.toNat_and, BitVec.toNat_ofInt, h63, Nat.and_two_pow_sub_one_eq_mod]
  show IntKind.i64.wrap ((BitVec.ofInt 64 n &&& BitVec.ofInt 64 63).toNat : Nat) = n % 64
  rw [key, IntKind.wrap_i64]
  omega
theorem LastAt.addV {w W : World} {pb mb : Nat} {T : Tab} {bs : List (Nat × Opv)} (h : LastAt w W pb mb T bs) (nm : List UInt8) (ty pr : Int) (hf : Fits ⟨nm, ty, pr⟩) : Calls Tryd.prog 10 #[.pointer (some ⟨pb, 0, none⟩), .agg #[.string (str nm), .int .i64 ty, .int .i64 pr]] W fun e w' => e = .returned (.int .i64 (checkV T ⟨nm, ty, pr⟩)) ∧ LastAt w w' pb mb (addT T ⟨nm, ty, pr⟩) bs := h.add hf
set_option maxRecDepth 1000000 in
set_option maxHeartbeats 16000000 in
/-- A right operator: the table is filled. -/
theorem manyGood_any (ty pr gone : Int) (w : World) (hv : VarsOk w) (h1 : 1 ≤ ty ∧ ty ≤ 7) (h2 : 1 ≤ pr ∧ pr ≤ 1200) :
    Calls Tryd.prog 6 #[.int .i64 ty, .int .i64 pr, .int .i64 gone] w fun e w' => e = .returned (.bool true) ∧ Below w.heap.size w w' := by
  have HV := Lib.hid hv
  clear hv
  have hwt : (Lit.int .i64 ty).wf = true := wf_small (by omega) (by omega)
  have hwp : (Lit.int .i64 pr).wf = true := wf_small (by omega) (by omega)
  have hF := fun nm (h : nm.length ≤ 64) => fits_of (nm := nm) h hwt hwp
  have hF1 := fun nm (h : nm.length ≤ 64) => fits_of (nm := nm) h hwt (show (Lit.int .i64 1).wf = true by decide)
  have hF0 := fun nm (h : nm.length ≤ 64) => fits_of (nm := nm) h hwt (show (Lit.int .i64 0).wf = true by decide)
  have HF := Lib.hid hF
  have HF1 := Lib.hid hF1
  have HF0 := Lib.hid hF0
  have d1 : ¬ ty < 1 := by omega
  have d2 : ¬ 7 < ty := by omega
  have d3 : ¬ pr < 1 := by omega
  have d4 : ¬ 1200 < pr := by omega
  have H12 := Lib.hid (And.intro h1 h2)
  obtain ⟨g, hg⟩ : ∃ g : Nat, gone % 64 = g := ⟨(gone % 64).toNat, by omega⟩
  have hg64 : g < 64 := by omega
  have HG := Lib.hid ((i64_and63 gone).trans hg)
  clear hwt hwp hF hF1 hF0 h1 h2 hg
  go_enter Tryd.func6, Tryd.ntmps6
  go_wp2_with fail
  refine (new_any _ HV.out).mono ?_
  rintro e w1 ⟨pb, mb, rfl, ht, hlp, hlm, hb⟩
  have hV1 : VarsOk w1 := HV.out.keep (Keep.ofBelow (X := (· < w.heap.size)) hb (fun _ h => h)) HV.out.lt.1 HV.out.lt.2
  have HV1 := Lib.hid hV1
  have H1 : Hid (LastAt w w1 pb mb tab0 []) := Lib.hid ⟨ht, al5.2.2.1, hb, hlm, fun x hx => by cases hx⟩
  clear ht hlp hlm hb hV1
  go_wp2_with fail
  refine (alive_any w1 HV1.out).mono ?_
  rintro e w2 ⟨rfl, hb2⟩
  have hk2 : Keep (fun _ => True) w1 w2 := (Keep.ofBelow (X := (· < w1.heap.size)) hb2 (fun _ h => h)).all
  have H2 := Lib.hid (H1.out.keep hk2)
  clear hb2 hk2 H1
  go_wp2_with fail
  refine H2.out.all.mono ?_
  rintro e w3 ⟨a3, c3, rfl, _, h3⟩
  have H3 := Lib.hid h3
  have HA := Lib.hid h3.tab.map.apart
  clear h3 H2
  have hsz := tab0_size
  obtain ⟨N, hN⟩ : ∃ N, tab0.length = N := ⟨_, rfl⟩
  have HFL := Lib.hid (fun k hk => filled H12.out.1 H12.out.2 HA.out k hk)
  rw [hN] at hsz HFL ⊢
  have HN := Lib.hid hN
  clear hN
  obtain ⟨n1, n2⟩ := hsz
  go_wp2_with fail
  go_loopw [9] (fun i wr => ∃ j k : Nat, j = N + k ∧ j ≤ 200 ∧ i = .int .i64 j ∧ LastAt w wr pb mb (fillT ty pr k) []) (fun i _ => 200 - (intOf i).toNat)
  case atStart => exact ⟨N, 0, rfl, by omega, rfl, H3.out⟩
  case round =>
    clear H3
    obtain ⟨j, k, hjk, hj, rfl, hL⟩ := hrel
    have HJ := Lib.hid hjk
    have HL := Lib.hid hL
    have hfl := HFL.out k (by omega)
    have HFK := Lib.hid hfl
    clear hjk hL hfl
    by_cases hlt : j < 200
    · have hck : checkV (fillT ty pr k) ⟨num j, ty, pr⟩ = 0 := by
        have hln := num_length j
        exact check_free H12.out.1 (by have := H12.out.2; omega) (by omega) (num_reserved _) (HFK.out.free _ _ (by rw [HN.out, ← HJ.out]; exact Nat.le_refl _) (by omega)) (by rw [HFK.out.len, HN.out, ← HJ.out]; omega)
      have hst : addT (fillT ty pr k) ⟨num j, ty, pr⟩ = fillT ty pr (k + 1) := by
        show _ = addT _ (numOp ty pr (tab0.length + k))
        rw [HN.out, ← HJ.out]; rfl
      have HC := Lib.hid hck
      have HST := Lib.hid hst
      clear hck hst
      go_wp2_with fail
      refine (decimal_any j (by omega) _).mono ?_
      rintro e w4 ⟨rfl, hk4⟩
      have hadd := (HL.out.keep hk4).addV (num j) ty pr (HF.out _ (by have := num_length j; omega))
      rw [HC.out, HST.out] at hadd
      have hcat := fun W => cat_num j W
      generalize str (digs j) = sd at hcat ⊢
      generalize str (num j) = sn at hcat hadd
      have HADD := Lib.hid hadd
      clear hadd hk4 HL
      go_wp2_with fail
      refine HADD.out.mono ?_
      rintro e w5 ⟨rfl, h5⟩
      have H5 := Lib.hid h5
      clear h5 HADD hcat
      go_wp2_with fail
      go_roundw
      case rel => exact ⟨j + 1, k + 1, by have := HJ.out; omega, by omega, by go_num, H5.out⟩
      case measure => simp [intOf]; omega
    · have hj2 : j = 200 := by omega
      have hk2 : tab0.length + k = 200 := by rw [HN.out, ← HJ.out]; exact hj2
      have hfin := @full_last ty pr H12.out.1 H12.out.2 _ k HFK.out hk2 (N + g) (by rw [HN.out]; omega)
      have hlen : (fillT ty pr k).length = 200 := by rw [HFK.out.len]; exact hk2
      obtain ⟨T, hT⟩ : ∃ T, fillT ty pr k = T := ⟨_, rfl⟩
      rw [hT] at hfin hlen HL
      have HFIN := Lib.hid hfin
      have hall := HL.out.all
      rw [hlen] at hall
      have HALL := Lib.hid hall
      subst hj2
      clear hfin hlen hk2 hT hall HL HJ HFK
      go_wp2_with fail
      refine HALL.out.mono ?_
      rintro e w4 ⟨a4, c4, rfl, _, h4⟩
      obtain ⟨f1, f2, f3, f4, f5, f6, f7, f8⟩ := HFIN.out
      have hadd := h4.addV nMore ty pr (HF.out _ (by decide))
      rw [f1, f2, nMore_eq] at hadd
      have HADD := Lib.hid hadd
      clear hadd h4 HALL
      have F3 := Lib.hid f3
      have F4 := Lib.hid f4
      have F5 := Lib.hid f5
      have F6 := Lib.hid f6
      have F7 := Lib.hid f7
      have F8 := Lib.hid f8
      clear f1 f2 f3 f4 f5 f6 f7 f8 HFIN
      go_wp2_with fail
      refine HADD.out.mono ?_
      rintro e w5 ⟨rfl, h5⟩
      have H5 := Lib.hid h5
      have hgm := HG.out
      clear h5 HADD
      go_wp2_with fail
      have hdec := decimal_any (N + g) (by omega) w5
      rw [show ((N + g : Nat) : Int) = (N : Int) + g by omega] at hdec
      refine hdec.mono ?_
      rintro e w6 ⟨rfl, hk6⟩
      have hadd := (H5.out.keep hk6).addV (num (N + g)) ty 1 (HF1.out _ (by have := num_length (N + g); omega))
      rw [F3.out] at hadd
      have hcat := fun W => cat_num (N + g) W
      obtain ⟨sn, hsn⟩ : ∃ sn, str (num (N + g)) = sn := ⟨_, rfl⟩
      generalize str (digs (N + g)) = sd at hcat ⊢
      rw [hsn] at hcat hadd
      have HADD := Lib.hid hadd
      have HSN := Lib.hid hsn
      clear hadd hk6 H5 hdec hgm hsn
      go_wp2_with fail
      refine HADD.out.mono ?_
      rintro e w7 ⟨rfl, h7⟩
      have hadd := h7.addV (num (N + g)) ty 0 (HF0.out _ (by have := num_length (N + g); omega))
      rw [F5.out, HSN.out] at hadd
      have HADD := Lib.hid hadd
      clear hadd h7 hcat
      go_wp2_with fail
      refine HADD.out.mono ?_
      rintro e w8 ⟨rfl, h8⟩
      have hall := h8.all
      rw [F6.out] at hall
      have HALL := Lib.hid hall
      clear hall h8 HADD
      go_wp2_with fail
      refine HALL.out.mono ?_
      rintro e w9 ⟨a9, c9, rfl, _, h9⟩
      have hadd := h9.addV nMore ty pr (HF.out _ (by decide))
      rw [F7.out, nMore_eq] at hadd
      have HADD := Lib.hid hadd
      clear hadd h9 HALL
      go_wp2_with fail
      refine HADD.out.mono ?_
      rintro e w10 ⟨rfl, h10⟩
      have hall := h10.all
      rw [F8.out] at hall
      have HALL := Lib.hid hall
      clear hall h10 HADD
      go_wp2_with fail
      refine HALL.out.mono ?_
      rintro e w11 ⟨a11, c11, rfl, _, h11⟩
      have HB := Lib.hid h11.below
      clear h11 HALL
      go_wp2_with fail
      go_ret
      exact ⟨rfl, HB.out⟩
theorem manyLaw_any (ty pr gone : Int) (w : World) (hv : VarsOk w) (h1 : (Lit.int .i64 ty).wf = true) (h2 : (Lit.int .i64 pr).wf = true) :
    Calls Tryd.prog 6 #[.int .i64 ty, .int .i64 pr, .int .i64 gone] w fun e w' => e = .returned (.bool true) ∧ Below w.heap.size w w' := by
  by_cases h : ty < 1 ∨ 7 < ty ∨ pr < 1 ∨ 1200 < pr
  · exact manyBad_any ty pr gone w hv h1 h2 h
  · exact manyGood_any ty pr gone w hv (by omega) (by omega)
end Go.Proofs.YtbjnbfoedicelaaDoor
