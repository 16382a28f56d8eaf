/-
  EpochHolds, the walk. Condition: the scripts are shorter than 2^60 (the reach of the reading pays it).
-/
import Derived.Test.YtiiaajdkkofbjaaHolds2
namespace Go.Proofs.Ytiiaajdkkofbjaa
open Go.RowKit Go.Maps
set_option linter.unusedVariables false

set_option maxRecDepth 100000 in
set_option maxHeartbeats 8000000 in
theorem holds_walk (a0 : Option Addr) (len0 cap0 : Nat) (a1 : Option Addr) (len1 cap1 : Nat) (tv bv : Int) (w : World) (hops0 : IsOps w a0 len0) (hops1 : IsOps w a1 len1) (hlen0 : len0 ≤ 1152921504606846976) (hlen1 : len1 ≤ 1152921504606846976) :
    Calls Try.prog 5 #[.slice a0 len0 cap0, .slice a1 len1 cap1, .int .i64 tv, .int .i64 bv] w fun e w' => e = .returned (.bool true) ∧ Below w.heap.size w w' := by
  have hX : ∀ W : World, w.heap.size ≤ W.heap.size → ∀ k, W.heap.size ≤ k → ¬ k < w.heap.size := fun W h k hk => by omega
  have HX := Lib.hid hX; clear hX
  have HO0 := Lib.hid hops0; clear hops0
  have HO1 := Lib.hid hops1; clear hops1
  obtain ⟨tt, hT⟩ : ∃ T : Nat, 1 + bits .and .i64 tv 7 = (T : Int) := ⟨(1 + tv % 8).toNat, by rw [i64_and7]; omega⟩
  have hT1 : 1 ≤ tt ∧ tt ≤ 8 := by rw [i64_and7] at hT; omega
  have hb0 : 0 ≤ bits .and .i64 tv 7 ∧ bits .and .i64 tv 7 ≤ 7 := by rw [i64_and7]; omega
  obtain ⟨by', hB⟩ : ∃ T : Nat, 1 + bits .and .i64 bv 7 = (T : Int) := ⟨(1 + bv % 8).toNat, by rw [i64_and7]; omega⟩
  have hB1 : 1 ≤ by' ∧ by' ≤ 8 := by rw [i64_and7] at hB; omega
  have hc0 : 0 ≤ bits .and .i64 bv 7 ∧ bits .and .i64 bv 7 ≤ 7 := by rw [i64_and7]; omega
  have HT := Lib.hid hT; clear hT
  have HB := Lib.hid hB; clear hB
  have Hb0 := Lib.hid hb0; clear hb0
  have Hc0 := Lib.hid hc0; clear hc0
  go_enter Try.func5, Try.ntmps5
  go_wp2_with fail
  refine (ho_new (X := fun k => k < w.heap.size) (HX.out _ (Nat.le_refl _))).mono ?_
  rintro e w1 ⟨rfl, a1', b1⟩
  have z1 := b1.size
  have K1 := Lib.hid (Keep.ofBelow' (X := fun k => k < w.heap.size) b1); clear b1
  go_wp2_with fail
  refine (ealive_any _).mono ?_
  rintro e w2 ⟨rfl, b2⟩
  have z2 := b2.size
  have a2' := a1'.below b2
  have K2 := Lib.hid (K1.out.trans (Keep.ofBelow' b2)); clear b2 K1 a1'
  go_wp2_with fail
  refine (ho_ynew a2' (HX.out _ (by omega))).mono ?_
  rintro e w3 ⟨rfl, y3, b3⟩
  have z3 := b3.size
  have K3 := Lib.hid (K2.out.trans (Keep.ofBelow' b3)); clear b3 a2' K2
  go_wp2_with fail
  refine (ho_alloc y3 (HX.out _ (by omega))).mono ?_
  rintro e w4 ⟨rfl, y4, k4⟩
  have K4 := Lib.hid (K3.out.trans k4); clear k4 y3 K3
  generalize w.heap.size + 1 = pa at y4 ⊢
  generalize w2.heap.size = py at y4 z3 ⊢
  have HREL0 : Hid (HR1 w w4 pa py 0) := Lib.hid ⟨K4.out, _, _, y4, ⟨by simp, by simp⟩, fun i _ => by
      have : i = 0 ∨ i = 1 ∨ i = 2 ∨ i = 3 ∨ i = 4 ∨ i = 5 ∨ i = 6 ∨ i = 7 ∨ i = 8 ∨ 9 ≤ i := by omega
      rcases this with rfl | rfl | rfl | rfl | rfl | rfl | rfl | rfl | rfl | h9
      all_goals first | rfl | (simp only [List.getD_eq_getElem?_getD]; rw [List.getElem?_eq_none (by simpa using h9)]; rfl), fun i => by
      have : i = 0 ∨ i = 1 ∨ i = 2 ∨ i = 3 ∨ i = 4 ∨ i = 5 ∨ i = 6 ∨ i = 7 ∨ i = 8 ∨ 9 ≤ i := by omega
      rcases this with rfl | rfl | rfl | rfl | rfl | rfl | rfl | rfl | rfl | h9
      all_goals first | (simp; done) | (simp only [List.getD_eq_getElem?_getD]; rw [List.getElem?_eq_none (by simpa using h9)]; simp), rfl, rfl, Int.le_refl _, (by simp), ⟨⟨_, rfl, rfl⟩, rfl⟩⟩
  clear y4 K4 z1 z2 z3
  go_wp2_with fail
  go_loopw [42] (fun i wr => ∃ k : Nat, k ≤ len0 ∧ i = .int .i64 k ∧ HR1 w wr pa py k) (fun i _ => len0 - (intOf i).toNat)
  case atStart => exact ⟨0, by omega, rfl, HREL0.out⟩
  case round =>
    clear HREL0
    obtain ⟨k, hk, rfl, hr⟩ := hrel
    have zr := hr.kp.size
    by_cases hlt : k < len0
    · obtain ⟨b, off, kd, t, bb, rfl, hb, ⟨c0, c1, c2⟩, hwb⟩ := HO0.out k hlt
      have hce := hr.kp.toBelow (fun _ hk => hk) (Nat.le_refl _)
      rw [← hce.cell (p := ⟨b, _, none⟩) hb] at c0 c1 c2
      clear hce
      have HS := Lib.hid (hr1_same hr (Obj.cells #[Value.int .i64 kd, Value.int .i64 t, Value.int .i64 bb] 49))
      by_cases h6 : kd = 6
      · have q6 : (kd == 6) = true := by simpa using h6
        have q6' : (kd != 6) = false := by simpa using h6
        clear hr h6
        go_wp2_with fail
        go_roundw
        case rel => exact ⟨k + 1, by omega, by go_num, HS.out⟩
        case measure => simp [intOf]; omega
      · have q6 : (kd == 6) = false := by simpa using h6
        have q6' : (kd != 6) = true := by simpa using h6
        by_cases hb1 : bb = 1
        · have q1 : (bb == 1) = true := by simpa using hb1
          have q1' : (bb != 1) = false := by simpa using hb1
          clear hr h6 hb1
          go_wp2_with fail
          go_roundw
          case rel => exact ⟨k + 1, by omega, by go_num, HS.out⟩
          case measure => simp [intOf]; omega
        · have q1 : (bb == 1) = false := by simpa using hb1
          have q1' : (bb != 1) = true := by simpa using hb1
          have hd := hr1_step hr (by omega) kd t bb hwb h6 hb1 (Obj.cells #[Value.int .i64 kd, Value.int .i64 t, Value.int .i64 bb] 49)
          have HD := Lib.hid hd; clear hd
          clear hr h6 hb1 HS hwb
          go_wp2_with fail
          refine HD.out.mono ?_
          rintro e w5 ⟨⟨r, rfl⟩, h5⟩
          have H5 := Lib.hid h5; clear h5
          go_wp2_with fail
          go_roundw
          case rel => exact ⟨k + 1, by omega, by go_num, H5.out⟩
          case measure => simp [intOf]; omega
    · have hle : (k : Int) ≤ 1152921504606846976 := by omega
      clear hk
      obtain ⟨hkp, Y, S, hyd, hri, hout, hent, hth, hbd, hnow, hmade, hfree⟩ := hr
      have HKP := Lib.hid hkp; clear hkp
      have hen := enter_any hyd (by omega) (tt : Int)
      have hok2 := hyd.ok
      have hin2 := enter_in' hok2 hT1.1 (by rw [hth]; omega)
      have hen2 := hent.enter hok2.now0 (tt : Int)
      have hri2 : Right (Y.enterAt tt) S := ⟨by rw [enter_wt]; exact hri.live, by rw [enter_wt]; exact hri.once⟩
      have hout2 := hout.enter (tt : Int)
      have hfree2 : Free1 (Y.enterAt tt) S := ⟨hfree.live, by rw [enter_wt]; exact hfree.no⟩
      have hth2 : (Y.enterAt tt).threads = 8 := by unfold YS.enterAt; split <;> exact hth
      have hbd2 : (Y.enterAt tt).bound = 64 := by unfold YS.enterAt; split <;> exact hbd
      have hnow2 : (Y.enterAt tt).now ≤ (k : Int) + 1 := by unfold YS.enterAt; split <;> (try dsimp only) <;> omega
      generalize Y.enterAt (tt : Int) = Y2 at hen hin2 hen2 hri2 hout2 hfree2 hth2 hbd2 hnow2
      have HEN := Lib.hid hen; clear hen
      have HP2 := Lib.hid (And.intro hin2 (And.intro hen2 (And.intro hri2 (And.intro hout2 hfree2))))
      have HQ2 := Lib.hid (And.intro hth2 hbd2)
      have HM2 := Lib.hid hmade
      clear hyd hri hout hent hth hbd hnow hmade hfree hok2 hin2 hen2 hri2 hout2 hfree2 hth2 hbd2
      have hT := HT.out
      have hB := HB.out
      have hb0 := Hb0.out
      have hc0 := Hc0.out
      go_wp2_with fail
      refine HEN.out.mono ?_
      rintro e w6 ⟨rfl, y6, k6⟩
      have z6 := k6.size
      have K6 := Lib.hid (HKP.out.trans k6); clear k6
      have HY6 := Lib.hid y6; clear y6
      clear hT hB hb0 hc0 HT HB Hb0 Hc0 HEN
      go_wp2_with fail
      refine (inside_form HY6.out).mono ?_
      rintro e w7 ⟨ia, ic, rfl, b7, ho7⟩
      have z7 := b7.size
      have K7 := Lib.hid (K6.out.trans (Keep.ofBelow' b7))
      have HY7 := Lib.hid (HY6.out.below b7); clear b7
      have hil := insideTo_le Y2.ent 9
      have hhas := has_own ho7 (by have : Y2.inside.length ≤ 9 := hil; omega) (tt : Int)
      have hini : (tt : Int) ∈ Y2.inside := insideTo_mem HP2.out.1 (by omega)
      rw [among_mem hini] at hhas
      have HHAS := Lib.hid hhas; clear hhas ho7 hini
      go_wp2_with fail
      refine HHAS.out.mono ?_
      rintro e w8 ⟨rfl, rfl⟩
      clear HHAS
      have hret := retire_any HY7.out (by omega) (HX.out w7 (by omega)) (by' : Int) 1 (by decide)
      rcases ret_cases Y2 S (by' : Int) 1 with ⟨he, hi⟩ | ⟨he, _, hw⟩ | ⟨he, _, _, hn⟩ | ⟨he, _, _, _, hlm⟩ | ⟨he, _, _, _, hlm⟩
      · exfalso
        unfold YS.isT at hi
        rw [HQ2.out.1] at hi
        have := of_decide_eq_false hi
        omega
      · exfalso
        rw [HP2.out.2.2.2.2.no] at hw
        cases hw
      · exfalso
        obtain ⟨cs, hc, _⟩ := HP2.out.2.2.2.2.live
        rw [hc] at hn
        cases hn
      · -- as many wait as may
        rw [he, (ret_43 he).1, (ret_43 he).2] at hret
        have HRET := Lib.hid hret; clear hret
        have hlim64 : lim Y2.sweepAt.wt (by' : Int) = 64 := by
          have h1 := (HY7.out.ok.sub (Z := Y2.sweepAt) rfl rfl rfl rfl List.filter_sublist).lims (by' : Int)
          have h2 : Y2.sweepAt.bound = 64 := HQ2.out.2
          have h3 := HQ2.out.2
          rw [h2] at h1
          rw [h3] at hlm
          omega
        have HLIM := Lib.hid hlim64; clear hlim64
        clear he hlm
        go_wp2_with fail
        refine HRET.out.mono ?_
        rintro e w9 ⟨rfl, y9, k9⟩
        have z9 := k9.size
        have K9 := Lib.hid (K7.out.trans k9); clear k9
        have HY9 := Lib.hid y9; clear y9
        go_wp2_with fail
        refine (inside_form HY9.out).mono ?_
        rintro e w10 ⟨ja, jc, rfl, b10, ho10⟩
        have z10 := b10.size
        have K10 := Lib.hid (K9.out.trans (Keep.ofBelow' b10))
        have HY10 := Lib.hid (HY9.out.below b10); clear b10
        have hie : Y2.sweepAt.inside = Y2.inside := rfl
        rw [hie] at ho10
        have hhas := has_own ho10 (by have : Y2.inside.length ≤ 9 := hil; omega) (tt : Int)
        have hini : (tt : Int) ∈ Y2.inside := insideTo_mem HP2.out.1 (by omega)
        rw [among_mem hini] at hhas
        have HHAS := Lib.hid hhas; clear hhas ho10 hie hini
        go_wp2_with fail
        refine HHAS.out.mono ?_
        rintro e w11 ⟨rfl, rfl⟩
        clear HHAS
        have hlb := limbo_any HY10.out (by' : Int)
        rw [HLIM.out] at hlb
        have HLB := Lib.hid hlb; clear hlb
        go_wp2_with fail
        refine HLB.out.mono ?_
        rintro e w12 ⟨rfl, b12⟩
        have K12 := Lib.hid (K10.out.trans (Keep.ofBelow' b12)); clear b12
        go_wp2_with fail
        go_ret
        exact ⟨rfl, K12.out.toBelow (fun _ hk => hk) (Nat.le_refl _)⟩
      · -- it waits
        rw [he, (ret_0 he).1, (ret_0 he).2] at hret
        have hri3 := HP2.out.2.2.1.retire (by' : Int) 1
        rw [(ret_0 he).1, (ret_0 he).2] at hri3
        have hlive3 := (HP2.out.2.2.2.2.sweep HP2.out.2.2.1).live
        have hmade3 := HP2.out.2.2.1.made
        have hheld3 : Held1 { Y2.sweepAt with now := Y2.now + 1, wt := Y2.sweepAt.wt ++ [⟨1, (by' : Int), Y2.now + 1⟩] } (S.sweepAt Y2) tt (Y2.now + 1) :=
          ⟨hlive3, ⟨⟨1, (by' : Int), Y2.now + 1⟩, by simp, rfl, rfl⟩, HP2.out.1, by
            show Y2.ent.getD tt 0 < Y2.now + 1
            have := (HP2.out.2.1 tt).2; omega⟩
        have hout3 : OutOk { Y2.sweepAt with now := Y2.now + 1, wt := Y2.sweepAt.wt ++ [⟨1, (by' : Int), Y2.now + 1⟩] } := HP2.out.2.2.2.1
        have hnow3 : ({ Y2.sweepAt with now := Y2.now + 1, wt := Y2.sweepAt.wt ++ [⟨1, (by' : Int), Y2.now + 1⟩] } : YS).now ≤ ((k + 2 : Nat) : Int) := by show Y2.now + 1 ≤ _; omega
        have hmade4 : (S.sweepAt Y2).made ≤ ((k + 2 : Nat) : Int) := by rw [hmade3]; have := HM2.out; omega
        generalize ({ Y2.sweepAt with now := Y2.now + 1, wt := Y2.sweepAt.wt ++ [⟨1, (by' : Int), Y2.now + 1⟩] } : YS) = Y3 at hret hri3 hheld3 hout3 hnow3
        generalize S.sweepAt Y2 = S3 at hret hri3 hheld3 hmade4
        have HRET := Lib.hid hret; clear hret
        have HG3 := Lib.hid (And.intro hri3 (And.intro hout3 (And.intro hnow3 (And.intro hmade4 hheld3))))
        obtain ⟨T, hTT⟩ : ∃ T, T = Y2.now + 1 := ⟨_, rfl⟩
        rw [← hTT] at HG3
        clear hri3 hlive3 hmade3 hheld3 hout3 hnow3 hmade4 he hlm hTT
        go_wp2_with fail
        refine HRET.out.mono ?_
        rintro e w9 ⟨rfl, y9, k9⟩
        have z9 := k9.size
        have HR2_0 : Hid (HR2 w w9 pa py tt T (k + 2 + 0)) := Lib.hid ⟨K7.out.trans k9, Y3, S3, y9, HG3.out.1, HG3.out.2.1, HG3.out.2.2.1, HG3.out.2.2.2.1, HG3.out.2.2.2.2⟩
        clear k9 y9 HG3 HRET HM2 HQ2 HP2 HY7 K7 HY6 K6 HKP z6 z7 z9 zr hnow2 hil
        have hk2 : k + 2 ≤ 1152921504606846978 := by omega
        clear hle hlt
        generalize k + 2 = c at HR2_0 hk2
        go_wp2_with fail
        go_loopw [95] (fun i wr => ∃ j : Nat, j ≤ len1 ∧ i = .int .i64 j ∧ HR2 w wr pa py tt T (c + j)) (fun i _ => len1 - (intOf i).toNat)
        case atStart => exact ⟨0, by omega, rfl, HR2_0.out⟩
        case round =>
          clear HR2_0
          obtain ⟨j, hj, rfl, hr⟩ := hrel
          have zr := hr.kp.size
          by_cases hlt : j < len1
          · obtain ⟨b, off, kd, t, bb, rfl, hb, ⟨c0, c1, c2⟩, hwb⟩ := HO1.out j hlt
            have hce := hr.kp.toBelow (fun _ hk => hk) (Nat.le_refl _)
            rw [← hce.cell (p := ⟨b, _, none⟩) hb] at c0 c1 c2
            clear hce
            have HS := Lib.hid (hr2_same hr (Obj.cells #[Value.int .i64 kd, Value.int .i64 t, Value.int .i64 bb] 49))
            by_cases h6 : kd = 6
            · have q6 : (kd == 6) = true := by simpa using h6
              clear hr h6
              go_wp2_with fail
              go_roundw
              case rel => exact ⟨j + 1, by omega, by go_num, HS.out⟩
              case measure => simp [intOf]; omega
            · have q6 : (kd == 6) = false := by simpa using h6
              by_cases h2 : kd = 2 ∧ t = tt
              · have q2 : (kd == 2) = true := by simpa using h2.1
                have qt : (t == (tt : Int)) = true := by simpa using h2.2
                clear hr h6 h2
                go_wp2_with fail
                go_roundw
                case rel => exact ⟨j + 1, by omega, by go_num, HS.out⟩
                case measure => simp [intOf]; omega
              · have hd := hr2_step hr (by omega) (by omega) kd t bb hwb h6 (fun e1 e2 => h2 ⟨e1, e2⟩) (Obj.cells #[Value.int .i64 kd, Value.int .i64 t, Value.int .i64 bb] 49)
                have HD := Lib.hid hd; clear hd
                have hq : (kd == 2) = false ∨ ((kd == 2) = true ∧ (t == (tt : Int)) = false) := by
                  by_cases e1 : kd = 2
                  · right; exact ⟨by simpa using e1, by simpa using fun e2 => h2 ⟨e1, e2⟩⟩
                  · left; simpa using e1
                clear hr h6 h2 HS hwb
                rcases hq with q2 | ⟨q2, qt⟩
                all_goals
                  go_wp2_with fail
                  refine HD.out.mono ?_
                  rintro e w10 ⟨⟨r, rfl⟩, h10⟩
                  obtain ⟨hkp, Y4, S4, y4, hr4, ho4, hn4, hm4, hh4⟩ := h10
                  obtain ⟨cs, hcs, hcl⟩ := hh4.live
                  have hsz : Calls Try.prog 30 #[.pointer (some ⟨pa, 0, none⟩), .int .i64 1] w10 fun e w' => e = .returned (.tuple #[.int .i64 3, .int .i64 0]) ∧ w10 = w' := by
                    obtain ⟨v, yv⟩ := y4
                    have := size_hit yv.ar (b := 1) (by decide) hcs
                    rw [hcl] at this
                    exact this
                  have hmem : (1 : Int) ∈ blocksOf Y4.wt := by
                    obtain ⟨r', hm', hb', _⟩ := hh4.mem
                    unfold blocksOf
                    rw [← hb']
                    exact List.mem_map_of_mem hm'
                  have HSZ := Lib.hid hsz; clear hsz
                  have HMEM := Lib.hid (among_mem hmem); clear hmem
                  have HKP := Lib.hid hkp; clear hkp
                  have HY4 := Lib.hid y4; clear y4
                  have HG4 := Lib.hid (And.intro hr4 (And.intro ho4 (And.intro hn4 (And.intro hm4 hh4))))
                  clear hr4 ho4 hn4 hm4 hh4 hcs hcl HD c0 c1 c2
                  have hfew := HY4.out.ok.few
                  go_wp2_with fail
                  refine HSZ.out.mono ?_
                  rintro e w11 ⟨rfl, rfl⟩
                  go_wp2_with fail
                  refine (waiting_any HY4.out).mono ?_
                  rintro e w11 ⟨rfl, b11, hB11⟩
                  have hbl : (blocksOf Y4.wt).length = Y4.wt.length := by simp [blocksOf]
                  have hha := has_any (c := Y4.wt.length) (n := Y4.wt.length) hB11 (by omega) (by omega) 1
                  rw [← hbl, List.take_length, HMEM.out, hbl] at hha
                  have HHA := Lib.hid hha; clear hha hB11 hbl
                  have HR3 : Hid (HR2 w w11 pa py tt T (c + j + 1)) := Lib.hid ⟨HKP.out.trans (Keep.ofBelow' b11), Y4, S4, HY4.out.below b11, HG4.out.1, HG4.out.2.1, HG4.out.2.2.1, HG4.out.2.2.2.1, HG4.out.2.2.2.2⟩
                  clear b11
                  go_wp2_with fail
                  refine HHA.out.mono ?_
                  rintro e w12 ⟨rfl, rfl⟩
                  go_wp2_with fail
                  go_roundw
                  case rel => exact ⟨j + 1, by omega, by go_num, HR3.out⟩
                  case measure => simp [intOf]; omega
          · clear hj
            obtain ⟨hkp, Y4, S4, y4, hr4, ho4, hn4, hm4, hh4⟩ := hr
            have h1 : AllOut Y4 1 := ⟨ho4, fun i h1 h2 => by omega⟩
            have HE0 : Hid (∃ Y S, Yd wr (fun k => k < w.heap.size) pa py Y S ∧ Right Y S ∧ AllOut Y 1 ∧ ∃ r ∈ Y.wt, r.block = 1) := Lib.hid ⟨Y4, S4, y4, hr4, h1, by obtain ⟨r, hm, hb, _⟩ := hh4.mem; exact ⟨r, hm, hb⟩⟩
            have HKP := Lib.hid hkp; clear hkp
            clear y4 hr4 ho4 hn4 hm4 hh4 h1
            go_wp2_with fail
            go_loopw [19] (fun i wq => ∃ n : Nat, 1 ≤ n ∧ n ≤ 9 ∧ i = .int .i64 n ∧ (∃ Y S, Yd wq (fun k => k < w.heap.size) pa py Y S ∧ Right Y S ∧ AllOut Y n ∧ ∃ r ∈ Y.wt, r.block = 1) ∧ Keep (fun k => k < w.heap.size) w wq) (fun i _ => 9 - (intOf i).toNat)
            case atStart => exact ⟨1, by omega, by omega, rfl, HE0.out, HKP.out⟩
            case round =>
              clear HE0 HKP zr
              obtain ⟨n, hn1, hn9, rfl, ⟨Y5, S5, y5, hr5, ho5, hm5⟩, hk5⟩ := hrel
              have z5 := hk5.size
              have HK5 := Lib.hid hk5; clear hk5
              by_cases hn : n < 9
              · have hl := leave_any y5 (n : Int)
                have hr6 : Right (Y5.leaveAt n) S5 := ⟨by rw [leave_wt]; exact hr5.live, by rw [leave_wt]; exact hr5.once⟩
                have ho6 := ho5.leave y5.ok hn1
                have hm6 : ∃ r ∈ (Y5.leaveAt n).wt, r.block = 1 := by rw [leave_wt]; exact hm5
                have HL := Lib.hid hl; clear hl
                have HG := Lib.hid (And.intro hr6 (And.intro ho6 hm6))
                clear y5 hr5 ho5 hm5 hr6 ho6 hm6
                go_wp2_with fail
                refine HL.out.mono ?_
                rintro e w13 ⟨rfl, y13, k13⟩
                have HY13 := Lib.hid y13; clear y13
                have HK13 := Lib.hid (HK5.out.trans k13); clear k13
                go_wp2_with fail
                go_roundw
                case rel => exact ⟨n + 1, by omega, by omega, by go_num, ⟨_, _, HY13.out, HG.out.1, HG.out.2.1, HG.out.2.2⟩, HK13.out⟩
                case measure => simp [intOf]; omega
              · obtain rfl : n = 9 := by omega
                have hnone := ho5.none
                have hnil := sweep_none hnone
                have hgone : look (S5.sweepAt Y5).bl 1 = none := by
                  obtain ⟨r, hm, hb⟩ := hm5
                  exact (hr5.look 1).1 ⟨r, hm, hb, hnone _⟩
                have hins : Y5.sweepAt.inside = [] := insideTo_none ho5.zero
                have hsw := sweep_any y5 (HX.out wr (by omega))
                generalize Y5.sweepAt = Y6 at hsw hnil hins
                generalize S5.sweepAt Y5 = S6 at hsw hgone
                have HSW := Lib.hid hsw; clear hsw
                have HG := Lib.hid (And.intro hnil (And.intro hgone hins))
                clear y5 hr5 ho5 hm5 hnone hnil hgone hins
                go_wp2_with fail
                refine HSW.out.mono ?_
                rintro e w14 ⟨rfl, y14, k14⟩
                have HK14 := Lib.hid (HK5.out.trans k14); clear k14
                go_wp2_with fail
                refine (ho_gone y14 HG.out.2.1).mono ?_
                rintro e w15 ⟨rfl, y15, k15⟩
                have HK15 := Lib.hid (HK14.out.trans k15); clear k15 y14
                have hwt := waiting_any y15
                rw [HG.out.1] at hwt
                have HWT := Lib.hid hwt; clear hwt
                have HY15 := Lib.hid y15; clear y15
                go_wp2_with fail
                refine HWT.out.mono ?_
                rintro e w16 ⟨rfl, b16, _⟩
                have HY16 := Lib.hid (HY15.out.below b16)
                have HK16 := Lib.hid (HK15.out.trans (Keep.ofBelow' b16)); clear b16
                have hif := inside_form HY16.out
                rw [HG.out.2.2] at hif
                have HIF := Lib.hid hif; clear hif
                go_wp2_with fail
                refine HIF.out.mono ?_
                rintro e w17 ⟨ja, jc, rfl, b17, _⟩
                have HK17 := Lib.hid (HK16.out.trans (Keep.ofBelow' b17)); clear b17
                go_wp2_with fail
                go_ret
                exact ⟨rfl, HK17.out.toBelow (fun _ hk => hk) (Nat.le_refl _)⟩
end Go.Proofs.Ytiiaajdkkofbjaa
