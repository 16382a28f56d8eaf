/-
  OpsApart: the law's walk. No condition but what the two package-level variables hold.
-/
import Derived.Test.YtjfejgacafapaaaDoorOp27
import Derived.Deep.RegionHeld3
namespace Go.Proofs.YtjfejgacafapaaaDoor
open Go.RowKit Go.Shelf Go.Maps
set_option linter.unusedVariables false
set_option linter.unusedSimpArgs false

set_option maxRecDepth 1000000 in
set_option maxHeartbeats 16000000 in
theorem apartLaw_any (a0 a1 a2 : Option Addr) (n0 n1 n2 c0 c1 c2 : Nat) (xs ys zs : Tab) (w : World) (hv : VarsOk w)
    (hr0 : OpRow w a0 n0 xs) (hx0 : ∀ x ∈ xs, Fits x) (hl0 : xs.length = n0) (hm0 : n0 ≤ maxLen)
    (hr1 : OpRow w a1 n1 ys) (hx1 : ∀ x ∈ ys, Fits x) (hl1 : ys.length = n1) (hm1 : n1 ≤ maxLen)
    (hr2 : OpRow w a2 n2 zs) (hx2 : ∀ x ∈ zs, Fits x) (hl2 : zs.length = n2) (hm2 : n2 ≤ maxLen) :
    Calls Tryd.prog 3 #[.slice a0 n0 c0, .slice a1 n1 c1, .slice a2 n2 c2] w fun e w' => e = .returned (.bool true) ∧ Below w.heap.size w w' := by
  have HR0 := Lib.hid hr0
  have HR1 := Lib.hid hr1
  have HR2 := Lib.hid hr2
  have HX0 := Lib.hid hx0
  have HX1 := Lib.hid hx1
  have HX2 := Lib.hid hx2
  have HV := Lib.hid hv
  have b0 : n0 ≤ 9223372036854775807 := hm0
  have b1 : n1 ≤ 9223372036854775807 := hm1
  have b2 : n2 ≤ 9223372036854775807 := hm2
  clear hr0 hr1 hr2 hv hm0 hm1 hm2 hx0 hx1 hx2
  have HV0 := Lib.hid fun W (hb : Below w.heap.size w W) => (HV.out.keep (Keep.ofBelow (X := (· < w.heap.size)) hb (fun _ h => h)) HV.out.lt.1 HV.out.lt.2)
  have HT0 := Lib.hid al5.2.2.1
  go_enter Tryd.func3, Tryd.ntmps3
  go_wp2_with fail
  refine (new_any w HV.out).mono ?_
  rintro e w1 ⟨p1, m1, rfl, t1, _, l1, h1⟩
  have H1 : Hid (ManyAt w w1 [⟨p1, m1, tab0⟩] []) := Lib.hid ⟨fun x hx => by obtain rfl := List.mem_singleton.1 hx; exact ⟨t1, al5.2.2.1, l1⟩, h1, List.pairwise_singleton _ _, fun x hx => by cases hx⟩
  have HT1 := Lib.hid t1
  clear t1 l1 h1
  go_wp2_with fail
  refine (new_any w1 (HV0.out _ H1.out.below)).mono ?_
  rintro e w2 ⟨p2, m2, rfl, t2, _, l2, h2⟩
  have H2 : Hid (ManyAt w w2 [⟨p2, m2, tab0⟩, ⟨p1, m1, tab0⟩] []) := Lib.hid (H1.out.more ((Keep.ofBelow (X := (· < w1.heap.size)) h2 (fun _ h => h)).all) t2 al5.2.2.1 l2)
  clear t2 l2 h2
  go_wp2_with fail
  refine (alive_any w2 (HV0.out _ H2.out.below)).mono ?_
  rintro e w3 ⟨rfl, h3⟩
  have H3 := Lib.hid (H2.out.keep ((Keep.ofBelow (X := (· < w2.heap.size)) h3 (fun _ h => h)).all))
  clear h3 H1 H2
  go_wp2_with fail
  go_loopw [36] (fun i wr => ∃ k : Nat, k ≤ n0 ∧ i = .int .i64 k ∧ ManyAt w wr [⟨p2, m2, playT tab0 (xs.take k)⟩, ⟨p1, m1, playT tab0 (xs.take k)⟩] []) (fun i _ => n0 - (intOf i).toNat)
  case atStart => exact ⟨0, by omega, rfl, H3.out⟩
  case round =>
    clear H3
    obtain ⟨k, hk, rfl, hL⟩ := hrel
    have zr := hL.below.size
    have HLL := Lib.hid hL
    by_cases hlt : k < n0
    · obtain ⟨x, hxk⟩ : ∃ x, xs[k]? = some x := ⟨_, List.getElem?_eq_getElem (by omega)⟩
      obtain ⟨b, off, rfl, hb, d0, d1, d2⟩ := HR0.out.cells hL.below hxk
      have hfx := HX0.out x (List.mem_of_getElem? hxk)
      have hb2 : b < wr.heap.size := by omega
      have hbx := hL.boxed x
      have HSUC := Lib.hid (@play_take_succ tab0 xs k x hxk)
      generalize playT tab0 (xs.take k) = T at *
      have HBX := Lib.hid hbx
      clear hbx hL HLL
      go_wp2_with fail
      refine (HBX.out.all (x := ⟨p1, m1, T⟩) (by simp)).mono ?_
      rintro e w4 ⟨a4, c4, rfl, _, h4, _⟩
      obtain ⟨o0, o1, o2, ol⟩ := h4.cells List.mem_cons_self
      have ol2 : wr.heap.size < w4.drew.heap.size := ol
      have q0 : w4.drew.cell? ⟨wr.heap.size, 0, none⟩ = _ := o0
      have q1 : w4.drew.cell? ⟨wr.heap.size, 1, none⟩ = _ := o1
      have q2 : w4.drew.cell? ⟨wr.heap.size, 2, none⟩ = _ := o2
      have H4 := Lib.hid h4.drew
      clear h4 HBX d0 d1 d2
      go_wp2_with fail
      have A1 : Hid (∀ W S, ManyAt w W [⟨p2, m2, S⟩, ⟨p1, m1, T⟩] [(wr.heap.size, x)] → Calls Tryd.prog 10 #[.pointer (some ⟨p1, 0, none⟩), .agg #[.string (str x.nm), .int .i64 x.ty, .int .i64 x.pr]] W fun e w' => e = .returned (.int .i64 (checkV T x)) ∧ ManyAt w w' [⟨p2, m2, S⟩, ⟨p1, m1, addT T x⟩] [(wr.heap.size, x)]) := Lib.hid (fun W S h => ManyAt.add (pre := [⟨p2, m2, S⟩]) (post := []) h hfx)
      have A2 : Hid (∀ W S, ManyAt w W [⟨p2, m2, T⟩, ⟨p1, m1, S⟩] [(wr.heap.size, x)] → Calls Tryd.prog 10 #[.pointer (some ⟨p2, 0, none⟩), .agg #[.string (str x.nm), .int .i64 x.ty, .int .i64 x.pr]] W fun e w' => e = .returned (.int .i64 (checkV T x)) ∧ ManyAt w w' [⟨p2, m2, addT T x⟩, ⟨p1, m1, S⟩] [(wr.heap.size, x)]) := Lib.hid (fun W S h => ManyAt.add (pre := []) (post := [⟨p1, m1, S⟩]) h hfx)
      have A3 : Hid (∀ W, ManyAt w W [⟨p2, m2, addT T x⟩, ⟨p1, m1, addT T x⟩] [(wr.heap.size, x)] → Calls Tryd.prog 10 #[.pointer (some ⟨p1, 0, none⟩), .agg #[.string (str x.nm), .int .i64 x.ty, .int .i64 x.pr]] W fun e w' => e = .returned (.int .i64 (checkV T x)) ∧ ManyAt w w' [⟨p2, m2, addT T x⟩, ⟨p1, m1, addT T x⟩] [(wr.heap.size, x)]) := Lib.hid (fun W h => by
        have := ManyAt.add (pre := [⟨p2, m2, addT T x⟩]) (post := []) h hfx
        rw [check_again, add_again] at this
        exact this)
      have hrf := @addT_refused T x
      have htl : T.length ≤ 200 := (H4.out.tabs ⟨p1, m1, T⟩ (by simp)).2.1
      clear hfx o0 o1 o2 ol
      obtain ⟨U, hU⟩ : ∃ U, addT T x = U := ⟨_, rfl⟩
      obtain ⟨cv, hcv⟩ : ∃ cv, checkV T x = cv := ⟨_, rfl⟩
      rw [hU, hcv] at A1 A2 A3
      rw [hU, hcv] at hrf
      have HRF := Lib.hid hrf
      have HSU := Lib.hid (HSUC.out.trans hU)
      clear hU hcv hrf HSUC
      go_region_held3 (fun w' => w'.cell? ⟨wr.heap.size, 0, none⟩ = some (.string (str x.nm)) ∧ w'.cell? ⟨wr.heap.size, 1, none⟩ = some (.int .i64 x.ty) ∧ w'.cell? ⟨wr.heap.size, 2, none⟩ = some (.int .i64 x.pr)) (simp [*])
        (first
          | (go_at_call_of 10 (Value.pointer (Option.some (Addr.mk p1 0 Option.none))); refine (A1.out _ _ (by first | exact H5.out | exact H4.out)).mono ?_; rintro e w5 ⟨rfl, h5⟩; obtain ⟨r0, r1, r2, rl⟩ := h5.cells List.mem_cons_self; have H5 := Lib.hid h5; clear h5)
          | (go_at_call_of 10 (Value.pointer (Option.some (Addr.mk p2 0 Option.none))); refine (A2.out _ _ (by first | exact H5.out | exact H4.out)).mono ?_; rintro e w5 ⟨rfl, h5⟩; obtain ⟨r0, r1, r2, rl⟩ := h5.cells List.mem_cons_self; have H5 := Lib.hid h5; clear h5))
      all_goals
        clear q0 q1 q2 ol2 H4
        go_wp2_with fail
        refine (A3.out _ H5.out).mono ?_
        clear r0 r1 r2 rl
        rintro e w7 ⟨rfl, h7⟩
        have H7 := Lib.hid h7
        clear h7 H5
        by_cases hc : cv = 0
        · subst hc
          go_wp2_with fail
          go_roundw
          case rel => exact ⟨k + 1, by omega, by go_num, by rw [HSU.out]; exact H7.out.less⟩
          case measure => simp [intOf]; omega
        · have hUT : U = T := HRF.out hc
          go_wp2_with fail
          refine (H7.out.all (x := ⟨p1, m1, U⟩) (by simp)).mono ?_
          rintro e w8 ⟨a8, c8, rfl, _, h8, _⟩
          have H9 := Lib.hid h8
          clear h8 H7
          dsimp only
          rw [show U.length = T.length by rw [hUT]]
          generalize T.length = N at *
          go_wp2_with fail
          go_roundw
          case rel => exact ⟨k + 1, by omega, by go_num, by rw [HSU.out]; exact H9.out.less⟩
          case measure => simp [intOf]; omega
    · have hkl : k = n0 := by omega
      have hta : xs.take k = xs := List.take_of_length_le (by omega)
      rw [hta] at hL
      clear hta hkl HLL
      obtain ⟨T1, hT1⟩ : ∃ T1, playT tab0 xs = T1 := ⟨_, rfl⟩
      rw [hT1] at hL
      have HL1 := Lib.hid hL
      clear hL hT1
      go_wp2_with fail
      refine (HL1.out.clone (x := ⟨p1, m1, T1⟩) (by simp)).mono ?_
      rintro e w8 ⟨p3, m3, rfl, hc⟩
      have HC := Lib.hid hc
      clear hc HL1
      dsimp only
      go_wp2_with fail
      go_loopw [68] (fun i wr => ∃ k : Nat, k ≤ n1 ∧ i = .int .i64 k ∧ ManyAt w wr [⟨p3, m3, T1⟩, ⟨p2, m2, T1⟩, ⟨p1, m1, playT T1 (ys.take k)⟩] []) (fun i _ => n1 - (intOf i).toNat)
      case atStart => exact ⟨0, by omega, rfl, HC.out⟩
      case round =>
        clear HC
        obtain ⟨k, hk, rfl, hL⟩ := hrel
        have zr := hL.below.size
        by_cases hlt : k < n1
        · obtain ⟨x, hxk⟩ : ∃ x, ys[k]? = some x := ⟨_, List.getElem?_eq_getElem (by omega)⟩
          obtain ⟨b, off, rfl, hb, d0, d1, d2⟩ := HR1.out.cells hL.below hxk
          have hfx := HX1.out x (List.mem_of_getElem? hxk)
          have hb2 : b < wr.heap.size := by omega
          have hadd := ManyAt.add (pre := [⟨p3, m3, T1⟩, ⟨p2, m2, T1⟩]) (post := []) (hL.boxed x) hfx
          rw [← play_take_succ hxk] at hadd
          have HADD := Lib.hid hadd
          clear hadd hL hfx
          go_wp2_with fail
          refine HADD.out.mono ?_
          rintro e w3 ⟨rfl, h3⟩
          have H3 := Lib.hid h3.less
          clear h3 HADD d0 d1 d2
          go_wp2_with fail
          go_roundw
          case rel => exact ⟨k + 1, by omega, by go_num, H3.out⟩
          case measure => simp [intOf]; omega
        · have hkl : k = n1 := by omega
          have hta : ys.take k = ys := List.take_of_length_le (by omega)
          rw [hta] at hL
          clear hta hkl
          obtain ⟨T2, hT2⟩ : ∃ T2, playT T1 ys = T2 := ⟨_, rfl⟩
          rw [hT2] at hL
          have HT2 := Lib.hid hT2
          have HL2 := Lib.hid hL
          clear hL hT2
          go_wp2_with fail
          go_loopw [78] (fun i wr => ∃ k : Nat, k ≤ n2 ∧ i = .int .i64 k ∧ ManyAt w wr [⟨p3, m3, playT T1 (zs.take k)⟩, ⟨p2, m2, T1⟩, ⟨p1, m1, T2⟩] []) (fun i _ => n2 - (intOf i).toNat)
          case atStart => exact ⟨0, by omega, rfl, HL2.out⟩
          case round =>
            clear HL2
            obtain ⟨k, hk, rfl, hL⟩ := hrel
            have zr := hL.below.size
            by_cases hlt : k < n2
            · obtain ⟨x, hxk⟩ : ∃ x, zs[k]? = some x := ⟨_, List.getElem?_eq_getElem (by omega)⟩
              obtain ⟨b, off, rfl, hb, d0, d1, d2⟩ := HR2.out.cells hL.below hxk
              have hfx := HX2.out x (List.mem_of_getElem? hxk)
              have hb2 : b < wr.heap.size := by omega
              have hadd := ManyAt.add (pre := []) (post := [⟨p2, m2, T1⟩, ⟨p1, m1, T2⟩]) (hL.boxed x) hfx
              rw [← play_take_succ hxk] at hadd
              have HADD := Lib.hid hadd
              clear hadd hL hfx
              go_wp2_with fail
              refine HADD.out.mono ?_
              rintro e w3 ⟨rfl, h3⟩
              have H3 := Lib.hid h3.less
              clear h3 HADD d0 d1 d2
              go_wp2_with fail
              go_roundw
              case rel => exact ⟨k + 1, by omega, by go_num, H3.out⟩
              case measure => simp [intOf]; omega
            · have hkl : k = n2 := by omega
              have hta : zs.take k = zs := List.take_of_length_le (by omega)
              rw [hta] at hL
              clear hta hkl
              obtain ⟨T3, hT3⟩ : ∃ T3, playT T1 zs = T3 := ⟨_, rfl⟩
              rw [hT3] at hL
              have HT3 := Lib.hid hT3
              have HL3 := Lib.hid hL
              clear hL hT3
              go_wp2_with fail
              refine (HL3.out.clone (x := ⟨p2, m2, T1⟩) (by simp)).mono ?_
              rintro e w9 ⟨p4, m4, rfl, hc⟩
              have HV4 := Lib.hid hc
              clear hc HL3
              dsimp only
              go_wp2_with fail
              go_loopw [90] (fun i wr => ∃ k : Nat, k ≤ n1 ∧ i = .int .i64 k ∧ ManyAt w wr [⟨p4, m4, playT T1 (ys.take k)⟩, ⟨p3, m3, T3⟩, ⟨p2, m2, T1⟩, ⟨p1, m1, T2⟩] []) (fun i _ => n1 - (intOf i).toNat)
              case atStart => exact ⟨0, by omega, rfl, HV4.out⟩
              case round =>
                clear HV4
                obtain ⟨k, hk, rfl, hL⟩ := hrel
                have zr := hL.below.size
                by_cases hlt : k < n1
                · obtain ⟨x, hxk⟩ : ∃ x, ys[k]? = some x := ⟨_, List.getElem?_eq_getElem (by omega)⟩
                  obtain ⟨b, off, rfl, hb, d0, d1, d2⟩ := HR1.out.cells hL.below hxk
                  have hfx := HX1.out x (List.mem_of_getElem? hxk)
                  have hb2 : b < wr.heap.size := by omega
                  have hadd := ManyAt.add (pre := []) (post := [⟨p3, m3, T3⟩, ⟨p2, m2, T1⟩, ⟨p1, m1, T2⟩]) (hL.boxed x) hfx
                  rw [← play_take_succ hxk] at hadd
                  have HADD := Lib.hid hadd
                  clear hadd hL hfx
                  go_wp2_with fail
                  refine HADD.out.mono ?_
                  rintro e w3 ⟨rfl, h3⟩
                  have H3 := Lib.hid h3.less
                  clear h3 HADD d0 d1 d2
                  go_wp2_with fail
                  go_roundw
                  case rel => exact ⟨k + 1, by omega, by go_num, H3.out⟩
                  case measure => simp [intOf]; omega
                · have hkl : k = n1 := by omega
                  have hta : ys.take k = ys := List.take_of_length_le (by omega)
                  rw [hta] at hL
                  clear hta hkl
                  obtain ⟨T4, hT4⟩ : ∃ T4, playT T1 ys = T4 := ⟨_, rfl⟩
                  rw [hT4] at hL
                  have HT4 := Lib.hid hT4
                  have HL4 := Lib.hid hL
                  clear hL hT4
                  go_wp2_with fail
                  go_loopw [100] (fun i wr => ∃ k : Nat, k ≤ n2 ∧ i = .int .i64 k ∧ ManyAt w wr [⟨p4, m4, T4⟩, ⟨p3, m3, T3⟩, ⟨p2, m2, playT T1 (zs.take k)⟩, ⟨p1, m1, T2⟩] []) (fun i _ => n2 - (intOf i).toNat)
                  case atStart => exact ⟨0, by omega, rfl, HL4.out⟩
                  case round =>
                    clear HL4
                    obtain ⟨k, hk, rfl, hL⟩ := hrel
                    have zr := hL.below.size
                    by_cases hlt : k < n2
                    · obtain ⟨x, hxk⟩ : ∃ x, zs[k]? = some x := ⟨_, List.getElem?_eq_getElem (by omega)⟩
                      obtain ⟨b, off, rfl, hb, d0, d1, d2⟩ := HR2.out.cells hL.below hxk
                      have hfx := HX2.out x (List.mem_of_getElem? hxk)
                      have hb2 : b < wr.heap.size := by omega
                      have hadd := ManyAt.add (pre := [⟨p4, m4, T4⟩, ⟨p3, m3, T3⟩]) (post := [⟨p1, m1, T2⟩]) (hL.boxed x) hfx
                      rw [← play_take_succ hxk] at hadd
                      have HADD := Lib.hid hadd
                      clear hadd hL hfx
                      go_wp2_with fail
                      refine HADD.out.mono ?_
                      rintro e w3 ⟨rfl, h3⟩
                      have H3 := Lib.hid h3.less
                      clear h3 HADD d0 d1 d2
                      go_wp2_with fail
                      go_roundw
                      case rel => exact ⟨k + 1, by omega, by go_num, H3.out⟩
                      case measure => simp [intOf]; omega
                    · have hkl : k = n2 := by omega
                      have hta : zs.take k = zs := List.take_of_length_le (by omega)
                      rw [hta] at hL
                      clear hta hkl
                      obtain ⟨T5, hT5⟩ : ∃ T5, playT T1 zs = T5 := ⟨_, rfl⟩
                      rw [hT5] at hL
                      have HT5 := Lib.hid hT5
                      have HL5 := Lib.hid hL
                      clear hL hT5
                      go_wp2_with fail
                      have e4 : T4 = T2 := HT4.out.symm.trans HT2.out
                      have e5 : T5 = T3 := HT5.out.symm.trans HT3.out
                      have hz := HL5.out
                      rw [e4, e5] at hz
                      have hl2 : (allT T2).length ≤ 200 := by rw [allT_length]; exact (hz.tabs ⟨p1, m1, T2⟩ (by simp)).2.1
                      have hl3 : (allT T3).length ≤ 200 := by rw [allT_length]; exact (hz.tabs ⟨p3, m3, T3⟩ (by simp)).2.1
                      have L2 := Lib.hid hl2
                      have L3 := Lib.hid hl3
                      have HZ := Lib.hid hz
                      clear hz hl2 hl3 e4 e5 HL5 HT2 HT3 HT4 HT5
                      refine (HZ.out.all (x := ⟨p1, m1, T2⟩) (by simp)).mono ?_
                      rintro e w11 ⟨a11, c11, rfl, hs11, h11, _⟩
                      have S11 := Lib.hid hs11
                      have H11 := Lib.hid h11
                      clear hs11 h11 HZ
                      dsimp only
                      go_wp2_with fail
                      refine (H11.out.all (x := ⟨p4, m4, T2⟩) (by simp)).mono ?_
                      rintro e w12 ⟨a12, c12, rfl, hs12, h12, hk12⟩
                      have S12 := Lib.hid (S11.out.keep hk12 (fun _ _ _ => trivial))
                      have S12b := Lib.hid hs12
                      have H12 := Lib.hid h12
                      clear hs12 h12 hk12 S11 H11
                      dsimp only
                      go_wp2_with fail
                      refine (same_any S12.out S12b.out L2.out).mono ?_
                      rintro e w13 ⟨rfl, hk13⟩
                      have H13 := Lib.hid (H12.out.keep hk13)
                      clear hk13 S12 S12b H12
                      go_wp2_with fail
                      refine (H13.out.all (x := ⟨p3, m3, T3⟩) (by simp)).mono ?_
                      rintro e w14 ⟨a14, c14, rfl, hs14, h14, _⟩
                      have S14 := Lib.hid hs14
                      have H14 := Lib.hid h14
                      clear hs14 h14 H13
                      dsimp only
                      go_wp2_with fail
                      refine (H14.out.all (x := ⟨p2, m2, T3⟩) (by simp)).mono ?_
                      rintro e w15 ⟨a15, c15, rfl, hs15, h15, hk15⟩
                      have S15 := Lib.hid (S14.out.keep hk15 (fun _ _ _ => trivial))
                      have S15b := Lib.hid hs15
                      have H15 := Lib.hid h15
                      clear hs15 h15 hk15 S14 H14
                      dsimp only
                      go_wp2_with fail
                      refine (same_any S15.out S15b.out L3.out).mono ?_
                      rintro e w16 ⟨rfl, hk16⟩
                      have HF := Lib.hid (H15.out.keep hk16).below
                      clear hk16 S15 S15b H15
                      go_wp2_with fail
                      go_ret
                      exact ⟨rfl, HF.out⟩
end Go.Proofs.YtjfejgacafapaaaDoor
