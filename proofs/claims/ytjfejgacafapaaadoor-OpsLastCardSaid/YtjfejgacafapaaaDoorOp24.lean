/-
  OpsLast: the law's walk. No condition but what the two package-level variables hold.
-/
import Derived.Test.YtjfejgacafapaaaDoorOp23
namespace Go.Proofs.YtjfejgacafapaaaDoor
open Go.RowKit Go.Shelf Go.Maps
set_option linter.unusedVariables false
set_option linter.unusedSimpArgs false

set_option maxRecDepth 1000000 in
set_option maxHeartbeats 8000000 in
theorem lastLaw_any (a : Option Addr) (len cap : Nat) (xs : Tab) (o : Opv) (w : World) (hv : VarsOk w) (ho : Fits o) (hr : OpRow w a len xs) (hx : ∀ x ∈ xs, Fits x) (hlen : xs.length = len) (hmx : len ≤ maxLen) :
    Calls Tryd.prog 5 #[.slice a len cap, opVal o] w fun e w' => e = .returned (.bool true) ∧ Below w.heap.size w w' := by
  have HR := Lib.hid hr
  have HV := Lib.hid hv
  clear hr hv
  have hmx2 : len ≤ 9223372036854775807 := hmx
  clear hmx
  have H0 := Lib.hid ((Below.refl w.heap.size w).alloc (Nat.le_refl _) (.cells #[.string (str o.nm), .int .i64 o.ty, .int .i64 o.pr] 27))
  have HO := Lib.hid (Blk.new w 27 #[.string (str o.nm), .int .i64 o.ty, .int .i64 o.pr])
  have HV0 := Lib.hid fun l => (HV.out.keep (X := fun _ => True) ((Keep.refl _ w).alloc (.cells #[.string (str o.nm), .int .i64 o.ty, .int .i64 o.pr] l)) trivial trivial)
  go_enter Tryd.func5, Tryd.ntmps5
  simp only [opVal]
  go_wp2_with (first
    | (go_at_call 7; refine (new_any _ (HV0.out _)).mono ?_; rintro e w1 ⟨pb, mb, rfl, ht, hlp, hlm, hb⟩; have HT := Lib.hid ht; clear ht; have HB := Lib.hid hb; clear hb; have HL := Lib.hid hlm; clear hlm hlp))
  have hB1 : Below w.heap.size w w1 := H0.out.trans (HB.out.mono (by simp))
  have hV1 : VarsOk w1 := HV.out.keep (Keep.ofBelow (X := (· < w.heap.size)) hB1 (fun _ h => h)) HV.out.lt.1 HV.out.lt.2
  have hO1 := HO.out.below HB.out (by simp)
  have hm1 : w.heap.size ≤ mb := Nat.le_trans (by simp) HL.out
  refine (alive_any w1 hV1).mono ?_
  rintro e w2 ⟨rfl, hb2⟩
  have hk2 : Keep (fun _ => True) w1 w2 := (Keep.ofBelow (X := (· < w1.heap.size)) hb2 (fun _ h => h)).all
  have hL2 : LastAt w w1 pb mb (playT tab0 (xs.take 0)) [(w.heap.size, o)] := ⟨HT.out, al5.2.2.1, hB1, hm1, fun x hx => by obtain rfl := List.mem_singleton.1 hx; exact hO1⟩
  have HL2 := Lib.hid (hL2.keep hk2)
  clear hB1 hV1 hO1 hm1 hk2 hb2 hL2 HT HB HL HV0 HV H0 HO
  go_wp2_with fail
  go_loopw [31] (fun i wr => ∃ k : Nat, k ≤ len ∧ i = .int .i64 k ∧ LastAt w wr pb mb (playT tab0 (xs.take k)) [(w.heap.size, o)]) (fun i _ => len - (intOf i).toNat)
  case atStart => exact ⟨0, by omega, rfl, HL2.out⟩
  case round =>
    clear HL2
    obtain ⟨k, hk, rfl, hL⟩ := hrel
    have zr := hL.below.size
    have htl := hL.tab.head.lt
    have HLL := Lib.hid hL
    by_cases hlt : k < len
    · obtain ⟨x, hxk⟩ : ∃ x, xs[k]? = some x := ⟨_, List.getElem?_eq_getElem (by omega)⟩
      obtain ⟨b, off, rfl, hb, d0, d1, d2⟩ := HR.out.cells hL.below hxk
      have hfx := hx x (List.mem_of_getElem? hxk)
      have hb2 : b < wr.heap.size := by omega
      have hbx := hL.boxed x
      have hadd := (hL.keep ((Keep.refl _ wr).alloc (.cells #[.string (str x.nm), .int .i64 x.ty, .int .i64 x.pr] 27))).add hfx
      rw [← play_take_succ hxk] at hadd
      have HADD := Lib.hid hadd
      clear hadd hbx hL
      go_wp2_with fail
      refine HADD.out.mono ?_
      rintro e w3 ⟨rfl, h3⟩
      have H3 := Lib.hid h3
      clear h3 HADD HLL d0 d1 d2
      go_wp2_with fail
      go_roundw
      case rel => exact ⟨k + 1, by omega, by go_num, H3.out⟩
      case measure => simp [intOf]; omega
    · have hkl : k = len := by omega
      rw [show List.take k xs = xs by rw [hkl, ← hlen, List.take_length]] at hL
      clear HLL
      generalize playT tab0 xs = T at hL
      have HL := Lib.hid hL
      clear hL htl
      go_wp2_with fail
      refine HL.out.all.mono ?_
      rintro e w3 ⟨a3, c3, rfl, _, h3⟩
      obtain ⟨o0, o1, o2, ol⟩ := h3.cells List.mem_cons_self
      simp only at o0 o1 o2 ol
      have H3 := Lib.hid h3
      clear h3 HL
      go_wp2_with fail
      refine (H3.out.pre ho.nm).mono ?_
      clear o0 o1 o2 ol
      rintro e w4 ⟨rfl, h4⟩
      obtain ⟨o0, o1, o2, ol⟩ := h4.cells List.mem_cons_self
      simp only at o0 o1 o2 ol
      unfold fndV
      obtain ⟨A, hA⟩ : ∃ A, (find T o.nm true).getD zOp = A := ⟨_, rfl⟩
      obtain ⟨fa, hfa⟩ : ∃ fa, (find T o.nm true).isSome = fa := ⟨_, rfl⟩
      rw [hA, hfa]
      simp only [opVal]
      have hAl : w4.heap.size < w4.heap.size + 1 := by omega
      have H5 := Lib.hid (h4.boxed A)
      have HA := Lib.hid hA
      have HFA := Lib.hid hfa
      clear h4 H3 hA hfa
      go_wp2_with fail
      refine (H5.out.aft ho.nm).mono ?_
      clear o0 o1 o2 ol
      rintro e w6 ⟨rfl, h6⟩
      obtain ⟨o0, o1, o2, ol⟩ := h6.cells (List.mem_cons_of_mem _ List.mem_cons_self)
      simp only at o0 o1 o2 ol
      unfold fndV
      obtain ⟨B, hB⟩ : ∃ B, (find T o.nm false).getD zOp = B := ⟨_, rfl⟩
      obtain ⟨fb, hfb⟩ : ∃ fb, (find T o.nm false).isSome = fb := ⟨_, rfl⟩
      rw [hB, hfb]
      simp only [opVal]
      have H7 := Lib.hid (h6.boxed B)
      have HB := Lib.hid hB
      have HFB := Lib.hid hfb
      clear h6 H5 hB hfb
      go_wp2_with fail
      refine (H7.out.add ho).mono ?_
      clear o0 o1 o2 ol
      rintro e w8 ⟨rfl, h8⟩
      obtain ⟨o0, o1, o2, ol⟩ := h8.cells (List.mem_cons_of_mem _ (List.mem_cons_of_mem _ List.mem_cons_self))
      simp only at o0 o1 o2 ol
      by_cases hc : checkV T o = 0
      · have H8 := Lib.hid h8
        have HC := Lib.hid hc
        obtain ⟨T1, hT1⟩ : ∃ T1, addT T o = T1 := ⟨_, rfl⟩
        have hpA : fa = true → 1 ≤ T.length := fun h => some_pos (HFA.out.trans h)
        have hpB : fb = true → 1 ≤ T.length := fun h => some_pos (HFB.out.trans h)
        have H12A := Lib.hid H7.out.tab.map.apart
        have H12B := Lib.hid H7.out.len
        rw [hT1] at H8
        have HT1 := Lib.hid hT1
        rw [hc]
        clear h8 H7 hc hT1
        go_wp2_with fail
        refine (H8.out.pre ho.nm).mono ?_
        clear o0 o1 o2 ol
        rintro e w9 ⟨rfl, h9⟩
        obtain ⟨o0, o1, o2, ol⟩ := h9.cells (List.mem_cons_of_mem _ (List.mem_cons_of_mem _ List.mem_cons_self))
        simp only at o0 o1 o2 ol
        unfold fndV
        obtain ⟨C, hC⟩ : ∃ C, (find T1 o.nm true).getD zOp = C := ⟨_, rfl⟩
        obtain ⟨fc, hfc⟩ : ∃ fc, (find T1 o.nm true).isSome = fc := ⟨_, rfl⟩
        rw [hC, hfc]
        simp only [opVal]
        have H10 := Lib.hid (h9.boxed C)
        have HCC := Lib.hid hC
        have HFC := Lib.hid hfc
        clear h9 H8
        go_wp2_with fail
        refine (H10.out.aft ho.nm).mono ?_
        clear o0 o1 o2 ol
        rintro e w11 ⟨rfl, h11⟩
        unfold fndV
        obtain ⟨D, hD⟩ : ∃ D, (find T1 o.nm false).getD zOp = D := ⟨_, rfl⟩
        obtain ⟨fd, hfd⟩ : ∃ fd, (find T1 o.nm false).isSome = fd := ⟨_, rfl⟩
        rw [hD, hfd]
        simp only [opVal]
        obtain ⟨p0, p1, p2, pl⟩ := h11.cells List.mem_cons_self
        obtain ⟨q0, q1, q2, ql⟩ := h11.cells (List.mem_cons_of_mem _ List.mem_cons_self)
        obtain ⟨r0, r1, r2, rl⟩ := h11.cells (List.mem_cons_of_mem _ (List.mem_cons_of_mem _ List.mem_cons_self))
        obtain ⟨o0, o1, o2, ol⟩ := h11.cells (List.mem_cons_of_mem _ (List.mem_cons_of_mem _ (List.mem_cons_of_mem _ List.mem_cons_self)))
        simp only at o0 o1 o2 ol p0 p1 p2 pl q0 q1 q2 ql r0 r1 r2 rl
        have hset := h11.setBox (bo := w.heap.size) (o := o) (List.mem_cons_of_mem _ (List.mem_cons_of_mem _ (List.mem_cons_of_mem _ List.mem_cons_self))) (Nat.le_refl _)
        have h12 := (hset.boxed D).add (fits_nought ho)
        have fz := (h11.box (w.heap.size, o) (List.mem_cons_of_mem _ (List.mem_cons_of_mem _ (List.mem_cons_of_mem _ List.mem_cons_self)))).frozen 2
        dsimp only at fz
        have hcn := check_nought HC.out
        have hln := length_nought H12A.out HC.out
        rw [HT1.out] at hcn hln
        rw [hcn] at h12
        have H12 := Lib.hid h12
        have HS := Lib.hid (find_add_same HC.out)
        have HOT := Lib.hid (fun p hp => @find_add_other T o p hp)
        rw [HT1.out] at HS HOT
        have hp0 := (good_of_check HC.out).2.2.1
        have HRP := Lib.hid (fun W => refPrefix_any o.ty W)
        clear h11 H10 hset hcn h12
        have hnl := H12B.out
        rcases hp : isPre o.ty with _ | _
        · rw [hp] at HS HOT HRP hln
          have e1 : C = A := by rw [← hC, ← HA.out, HOT.out true (by simp)]
          have e2 : fc = fa := by rw [← hfc, ← HFA.out, HOT.out true (by simp)]
          rw [HFB.out] at hln
          have hs := HS.out
          clear HA HFA hC hfc HOT HS HB HFB HC HT1
          subst e1 e2
          by_cases hz : o.pr = 0
          · rw [if_pos hz] at hs
            rw [hs] at hD hfd
            simp only [Option.getD_none, Option.isSome_none] at hD hfd
            subst hfd
            have d1 : decide (0 < o.pr) = false := by simp; omega
            clear hs hz
            go_wp2_with (go_at_call 17; refine (HRP.out _).mono ?_; rintro e w12 ⟨rfl, rfl⟩)
            refine H12.out.mono ?_
            clear o0 o1 o2 ol p0 p1 p2 pl q0 q1 q2 ql r0 r1 r2 rl fz
            rintro e w13 ⟨rfl, h13⟩
            obtain ⟨o0, o1, o2, ol⟩ := h13.cells (List.mem_cons_of_mem _ List.mem_cons_self)
            simp only [nought] at o0 o1 o2 ol
            have H13 := Lib.hid h13
            clear h13 H12
            rcases fb with _ | _
            · go_wp2_with (go_at_call 17; refine (HRP.out _).mono ?_; rintro e w12 ⟨rfl, rfl⟩)
              refine H13.out.all.mono ?_
              clear o0 o1 o2 ol
              rintro e w14 ⟨a14, c14, rfl, _, h14⟩
              have HF := Lib.hid h14.below
              clear h14 H13
              rw [hln, if_neg (by simp)]
              clear hln hpA hpB
              generalize T.length = N at *
              go_wp2_with fail
              go_ret
              exact ⟨rfl, HF.out⟩
            · go_wp2_with (go_at_call 17; refine (HRP.out _).mono ?_; rintro e w12 ⟨rfl, rfl⟩)
              refine H13.out.all.mono ?_
              clear o0 o1 o2 ol
              rintro e w14 ⟨a14, c14, rfl, _, h14⟩
              have HF := Lib.hid h14.below
              clear h14 H13
              have hp1 := hpB (by simp)
              rw [hln, if_pos (by simp)]
              clear hln hpA hpB
              obtain ⟨M, hM⟩ : ∃ M, T.length = M + 1 := ⟨T.length - 1, by omega⟩
              rw [hM] at hnl ⊢
              rw [Nat.add_sub_cancel]
              clear hp1 hM
              go_wp2_with fail
              go_ret
              exact ⟨rfl, HF.out⟩
          · rw [if_neg hz] at hs
            rw [hs] at hD hfd
            simp only [Option.getD_some, Option.isSome_some] at hD hfd
            subst hfd hD
            have d1 : decide (0 < o.pr) = true := by simp; omega
            clear hs hz
            go_wp2_with (go_at_call 17; refine (HRP.out _).mono ?_; rintro e w12 ⟨rfl, rfl⟩)
            refine H12.out.mono ?_
            clear o0 o1 o2 ol p0 p1 p2 pl q0 q1 q2 ql r0 r1 r2 rl fz
            rintro e w13 ⟨rfl, h13⟩
            obtain ⟨o0, o1, o2, ol⟩ := h13.cells (List.mem_cons_of_mem _ List.mem_cons_self)
            simp only [nought] at o0 o1 o2 ol
            have H13 := Lib.hid h13
            clear h13 H12
            rcases fb with _ | _
            · go_wp2_with (go_at_call 17; refine (HRP.out _).mono ?_; rintro e w12 ⟨rfl, rfl⟩)
              refine H13.out.all.mono ?_
              clear o0 o1 o2 ol
              rintro e w14 ⟨a14, c14, rfl, _, h14⟩
              have HF := Lib.hid h14.below
              clear h14 H13
              rw [hln, if_neg (by simp)]
              clear hln hpA hpB
              generalize T.length = N at *
              go_wp2_with fail
              go_ret
              exact ⟨rfl, HF.out⟩
            · go_wp2_with (go_at_call 17; refine (HRP.out _).mono ?_; rintro e w12 ⟨rfl, rfl⟩)
              refine H13.out.all.mono ?_
              clear o0 o1 o2 ol
              rintro e w14 ⟨a14, c14, rfl, _, h14⟩
              have HF := Lib.hid h14.below
              clear h14 H13
              have hp1 := hpB (by simp)
              rw [hln, if_pos (by simp)]
              clear hln hpA hpB
              obtain ⟨M, hM⟩ : ∃ M, T.length = M + 1 := ⟨T.length - 1, by omega⟩
              rw [hM] at hnl ⊢
              rw [Nat.add_sub_cancel]
              clear hp1 hM
              go_wp2_with fail
              go_ret
              exact ⟨rfl, HF.out⟩
        · rw [hp] at HS HOT HRP hln
          have e1 : D = B := by rw [← hD, ← HB.out, HOT.out false (by simp)]
          have e2 : fd = fb := by rw [← hfd, ← HFB.out, HOT.out false (by simp)]
          rw [HFA.out] at hln
          have hs := HS.out
          clear HA HFA hD hfd HOT HS HB HFB HC HT1
          subst e1 e2
          by_cases hz : o.pr = 0
          · rw [if_pos hz] at hs
            rw [hs] at hC hfc
            simp only [Option.getD_none, Option.isSome_none] at hC hfc
            subst hfc
            have d1 : decide (0 < o.pr) = false := by simp; omega
            clear hs hz
            go_wp2_with (go_at_call 17; refine (HRP.out _).mono ?_; rintro e w12 ⟨rfl, rfl⟩)
            refine H12.out.mono ?_
            clear o0 o1 o2 ol p0 p1 p2 pl q0 q1 q2 ql r0 r1 r2 rl fz
            rintro e w13 ⟨rfl, h13⟩
            obtain ⟨o0, o1, o2, ol⟩ := h13.cells (List.mem_cons_of_mem _ List.mem_cons_self)
            simp only [nought] at o0 o1 o2 ol
            have H13 := Lib.hid h13
            clear h13 H12
            rcases fa with _ | _
            · go_wp2_with (go_at_call 17; refine (HRP.out _).mono ?_; rintro e w12 ⟨rfl, rfl⟩)
              refine H13.out.all.mono ?_
              clear o0 o1 o2 ol
              rintro e w14 ⟨a14, c14, rfl, _, h14⟩
              have HF := Lib.hid h14.below
              clear h14 H13
              rw [hln, if_neg (by simp)]
              clear hln hpA hpB
              generalize T.length = N at *
              go_wp2_with fail
              go_ret
              exact ⟨rfl, HF.out⟩
            · go_wp2_with (go_at_call 17; refine (HRP.out _).mono ?_; rintro e w12 ⟨rfl, rfl⟩)
              refine H13.out.all.mono ?_
              clear o0 o1 o2 ol
              rintro e w14 ⟨a14, c14, rfl, _, h14⟩
              have HF := Lib.hid h14.below
              clear h14 H13
              have hp1 := hpA (by simp)
              rw [hln, if_pos (by simp)]
              clear hln hpA hpB
              obtain ⟨M, hM⟩ : ∃ M, T.length = M + 1 := ⟨T.length - 1, by omega⟩
              rw [hM] at hnl ⊢
              rw [Nat.add_sub_cancel]
              clear hp1 hM
              go_wp2_with fail
              go_ret
              exact ⟨rfl, HF.out⟩
          · rw [if_neg hz] at hs
            rw [hs] at hC hfc
            simp only [Option.getD_some, Option.isSome_some] at hC hfc
            subst hfc hC
            have d1 : decide (0 < o.pr) = true := by simp; omega
            clear hs hz
            go_wp2_with (go_at_call 17; refine (HRP.out _).mono ?_; rintro e w12 ⟨rfl, rfl⟩)
            refine H12.out.mono ?_
            clear o0 o1 o2 ol p0 p1 p2 pl q0 q1 q2 ql r0 r1 r2 rl fz
            rintro e w13 ⟨rfl, h13⟩
            obtain ⟨o0, o1, o2, ol⟩ := h13.cells (List.mem_cons_of_mem _ List.mem_cons_self)
            simp only [nought] at o0 o1 o2 ol
            have H13 := Lib.hid h13
            clear h13 H12
            rcases fa with _ | _
            · go_wp2_with (go_at_call 17; refine (HRP.out _).mono ?_; rintro e w12 ⟨rfl, rfl⟩)
              refine H13.out.all.mono ?_
              clear o0 o1 o2 ol
              rintro e w14 ⟨a14, c14, rfl, _, h14⟩
              have HF := Lib.hid h14.below
              clear h14 H13
              rw [hln, if_neg (by simp)]
              clear hln hpA hpB
              generalize T.length = N at *
              go_wp2_with fail
              go_ret
              exact ⟨rfl, HF.out⟩
            · go_wp2_with (go_at_call 17; refine (HRP.out _).mono ?_; rintro e w12 ⟨rfl, rfl⟩)
              refine H13.out.all.mono ?_
              clear o0 o1 o2 ol
              rintro e w14 ⟨a14, c14, rfl, _, h14⟩
              have HF := Lib.hid h14.below
              clear h14 H13
              have hp1 := hpA (by simp)
              rw [hln, if_pos (by simp)]
              clear hln hpA hpB
              obtain ⟨M, hM⟩ : ∃ M, T.length = M + 1 := ⟨T.length - 1, by omega⟩
              rw [hM] at hnl ⊢
              rw [Nat.add_sub_cancel]
              clear hp1 hM
              go_wp2_with fail
              go_ret
              exact ⟨rfl, HF.out⟩
      · rw [addT_refused hc] at h8
        have H8 := Lib.hid h8
        generalize checkV T o = cv at hc
        clear h8 H7
        go_wp2_with fail
        refine (H8.out.pre ho.nm).mono ?_
        clear o0 o1 o2 ol
        rintro e w9 ⟨rfl, h9⟩
        obtain ⟨o0, o1, o2, ol⟩ := h9.cells (List.mem_cons_of_mem _ (List.mem_cons_of_mem _ List.mem_cons_self))
        simp only at o0 o1 o2 ol
        unfold fndV
        rw [HA.out, HFA.out]
        simp only [opVal]
        have H10 := Lib.hid (h9.boxed A)
        clear h9 H8
        go_wp2_with fail
        refine (H10.out.aft ho.nm).mono ?_
        clear o0 o1 o2 ol
        rintro e w11 ⟨rfl, h11⟩
        unfold fndV
        rw [HB.out, HFB.out]
        simp only [opVal]
        obtain ⟨p0, p1, p2, pl⟩ := h11.cells List.mem_cons_self
        obtain ⟨q0, q1, q2, ql⟩ := h11.cells (List.mem_cons_of_mem _ List.mem_cons_self)
        obtain ⟨r0, r1, r2, rl⟩ := h11.cells (List.mem_cons_of_mem _ (List.mem_cons_of_mem _ List.mem_cons_self))
        simp only at p0 p1 p2 pl q0 q1 q2 ql r0 r1 r2 rl
        have H12 := Lib.hid (h11.boxed B)
        clear h11 H10
        go_wp2_with fail
        refine H12.out.all.mono ?_
        rintro e w13 ⟨a13, c13, rfl, _, h13⟩
        have HF := Lib.hid h13.below
        go_wp2_with fail
        go_ret
        exact ⟨rfl, HF.out⟩
end Go.Proofs.YtjfejgacafapaaaDoor
