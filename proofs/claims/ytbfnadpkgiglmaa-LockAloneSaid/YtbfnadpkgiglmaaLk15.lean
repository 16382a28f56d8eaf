/-
  LockAlone, the walk. Conditions: the script's length.
-/
import Derived.Test.YtbfnadpkgiglmaaLk14
namespace Go.Proofs.Ytbfnadpkgiglmaa
open Go.RowKit Go.Maps
set_option linter.unusedVariables false
set_option linter.unusedSimpArgs false

structure ARel (w : World) (pa mb : Nat) (m : Int) (y : Lk) (c : Int) (wr : World) : Prop where
  at_ : ∃ L, LkAt wr pa mb L c ∧ LS.get L m = some y
  bel : Below w.heap.size w wr

set_option maxRecDepth 1000000 in
set_option maxHeartbeats 40000000 in
theorem alone_walk (a1 : Option Addr) (c1 len : Nat) (m t u n : Int) (hm : (ik m).wf = true) (w : World) (hops : IsOps w a1 len) (hlen : len ≤ 5864062014805) :
    Calls Try.prog 4 #[.slice a1 len c1, .int .i64 m, .int .i64 t, .int .i64 u, .int .i64 n] w fun e w' => e = .returned (.bool true) ∧ Below w.heap.size w w' := by
  have HOPS := Lib.hid hops; clear hops
  go_enter Try.func4, Try.ntmps4
  go_wp2_with fail
  refine (new_any w).mono ?_
  rintro e w1 ⟨pa, mb, rfl, h, hpa, hmb, hb⟩
  have hz1 := hb.size
  have HB := Lib.hid hb; clear hb
  have HH := Lib.hid h; clear h
  go_wp2_with fail
  refine (alive_any w1).mono ?_
  rintro e w2 ⟨rfl, hb2⟩
  have REL0 : Hid (SRel w pa mb 0 w2) := Lib.hid ⟨⟨[], HH.out.below hb2, by simp⟩, HB.out.trans (hb2.mono hz1)⟩
  clear hb2 HB HH
  go_wp2_with fail
  go_loopw [29] (fun i wr => ∃ k : Nat, k ≤ len ∧ i = .int .i64 k ∧ SRel w pa mb k wr) (fun i _ => len - (intOf i).toNat)
  case atStart => exact ⟨0, by omega, rfl, REL0.out⟩
  case round =>
    clear REL0
    obtain ⟨k, hk, rfl, hrel⟩ := hrel
    obtain ⟨L, hL, hLk⟩ := hrel.at_
    have hbel := hrel.bel
    have hzr := hbel.size
    clear hrel
    by_cases hlt : k < len
    · obtain ⟨b, off, kd, om, ot, rfl, hb, d0, d1, d2, wm, wt⟩ := (HOPS.out.keep hbel) k hlt
      have h1 := (hL.alloc (.cells #[.int .i64 kd, .int .i64 om, .int .i64 ot] 29)).alloc (Obj.cells #[] 35)
      have hra : RAt ((wr.alloc (.cells #[.int .i64 kd, .int .i64 om, .int .i64 ot] 29)).alloc (Obj.cells #[] 35)) (.slice (some ⟨wr.heap.size + 1, 0, none⟩) 0 0) [] := by
        have := row_made (wr.alloc (.cells #[.int .i64 kd, .int .i64 om, .int .i64 ot] 29)) 0 (Nat.zero_le _)
        simpa [RAt] using this
      have hc := does_nil h1 hra (by omega) (by omega) (by omega) kd om ot wm wt
      have hln := length_step L kd om ot
      generalize LS.step L kd om ot = L2 at *
      have HC := Lib.hid hc; clear hc
      have HBL : Hid (Below w.heap.size w ((wr.alloc (.cells #[.int .i64 kd, .int .i64 om, .int .i64 ot] 29)).alloc (Obj.cells #[] 35))) := Lib.hid ((hbel.alloc hzr _).alloc (by simp; omega) _)
      clear h1 hra hL hbel
      go_wp2_with fail
      refine HC.out.mono ?_
      rintro e w4 ⟨v, b4, rfl, h4, hk4⟩
      have HF : Hid (SRel w pa mb (k + 1) w4) := Lib.hid ⟨⟨L2, h4.mono (by omega), by omega⟩, KeepL.bel HBL.out hk4 hpa hmb⟩
      clear h4 hk4 HC HBL
      go_wp2_with fail
      go_roundw
      case rel => exact ⟨k + 1, by omega, by go_num, HF.out⟩
      case measure => simp [intOf]; omega
    · obtain rfl : k = len := by omega
      clear HOPS hlt hk
      have hall := all_any hL
      have hfew := hL.ok.few
      have HL := Lib.hid hL; clear hL
      have HB := Lib.hid hbel; clear hbel
      have HALL := Lib.hid hall; clear hall
      go_wp2_with fail
      refine HALL.out.mono ?_
      rintro e w3 ⟨va, rfl, hrow, hb3⟩
      obtain ⟨aa, ca, rfl, hin⟩ := own_ints hrow
      have hhas := has_ints (c := ca) hin (by omega) m
      have hHL := HL.out.below hb3
      have HB3 : Hid (Below w.heap.size w w3) := Lib.hid (HB.out.trans (hb3.mono hzr))
      clear hrow hb3 hin HALL HB
      have hget : among (LS.all L) m = true → ∃ y, LS.get L m = some y := fun hh => Option.isSome_iff_exists.1 (mem_all.1 ((among_iff _ _).1 hh))
      generalize among (LS.all L) m = bh at hhas hget
      have HL3 := Lib.hid hHL; clear hHL HL
      have HHAS := Lib.hid hhas; clear hhas
      go_wp2_with fail
      refine HHAS.out.mono ?_
      rintro e w4 ⟨rfl, rfl⟩
      clear HHAS
      by_cases hgo : bh = true ∧ 1 ≤ t ∧ 1 ≤ u ∧ t ≠ u
      · obtain ⟨rfl, ht, hu, htu⟩ := hgo
        obtain ⟨y, hy⟩ := hget rfl
        have hyok := HL3.out.ok.get hy
        have hb1 : (t == u) = false := by simpa using htu
        have how := owner_any HL3.out hm
        unfold owV at how
        rw [hy] at how
        dsimp only [Option.getD_some] at how
        have HOW := Lib.hid how; clear how
        clear hget
        go_wp2_with fail
        refine HOW.out.mono ?_
        rintro e w5 ⟨rfl, hb5⟩
        have hz3 := HB3.out.size
        have h5 : ARel w pa mb m y k w5 := ⟨⟨L, HL3.out.below hb5, hy⟩, HB3.out.trans (hb5.mono hz3)⟩
        clear hb5 HOW HL3 HB3 hy hfew hLk hz3 hzr
        generalize hyo : y.ow = o at *
        generalize hyc : y.ct = ct at *
        by_cases ho : o = 0
        · obtain rfl : y = ⟨true, o, ct⟩ := by
            obtain ⟨L5, _, hg⟩ := h5.at_
            obtain ⟨i5, _, _, hi5, hi6⟩ := get_some hg
            have : y.is = true := by rw [← hi6]; exact hi5
            cases y; dsimp only at this hyo hyc; rw [this, hyo, hyc]
          have hct : ct = 0 := by omega
          clear hyo hyc hyok
          subst ho hct
          obtain ⟨q0, q1⟩ := and31 n
          obtain ⟨q, hq⟩ : ∃ q : Nat, bits BinOp.and IntKind.i64 n 31 = (q : Int) := ⟨(bits BinOp.and IntKind.i64 n 31).toNat, by omega⟩
          obtain ⟨N, hN⟩ : ∃ N : Nat, N = q + 1 := ⟨_, rfl⟩
          have hN32 : N ≤ 32 := by omega
          have hwr : IntKind.i64.wrap (1 + (q : Int)) = (N : Int) := by rw [IntKind.wrap_i64]; omega
          clear q0 q1 hN
          have R0 : Hid (ARel w pa mb m ⟨true, if (0 : Nat) = 0 then 0 else t, ((0 : Nat) : Int)⟩ ((k : Int) + 2 * ((0 : Nat) : Int)) w5) := Lib.hid ⟨by obtain ⟨L5, hL5, hg5⟩ := h5.at_; exact ⟨L5, hL5.mono (by omega), hg5⟩, h5.bel⟩
          clear h5
          go_wp2_with fail
          go_loopw [18] (fun i wr => ∃ j : Nat, j ≤ N ∧ i = .int .i64 j ∧ ARel w pa mb m ⟨true, if j = 0 then 0 else t, (j : Int)⟩ ((k : Int) + 2 * (j : Int)) wr) (fun i _ => N - (intOf i).toNat)
          case atStart => exact ⟨0, by omega, rfl, R0.out⟩
          case round =>
            clear R0 hq hwr
            obtain ⟨j, hj, rfl, hrel⟩ := hrel
            obtain ⟨L6, hL6, hg6⟩ := hrel.at_
            have hbl6 := hrel.bel
            clear hrel
            by_cases hjN : j < N
            · have hc1 := take_ok hL6 (by omega) (by omega) hm hg6 ht (by
                dsimp only
                by_cases h0 : j = 0
                · left; omega
                · right; rw [if_neg h0])
              dsimp only at hc1
              have HC1 := Lib.hid hc1; clear hc1 hL6 hg6
              have HBL6 := Lib.hid hbl6; clear hbl6
              go_wp2_with fail
              refine HC1.out.mono ?_
              rintro e w7 ⟨rfl, hk7, L7, hL7, hg7⟩
              have hbl7 := KeepL.bel HBL6.out hk7 hpa hmb
              have hc2 := take_no hL7 (by omega) (by omega) hm hg7 hu ⟨by dsimp only; omega, htu⟩
              have HC2 := Lib.hid hc2; clear hc2 hL7 hg7 hk7 HC1 HBL6
              have HBL7 := Lib.hid hbl7; clear hbl7
              go_wp2_with fail
              refine HC2.out.mono ?_
              rintro e w8 ⟨rfl, hk8, L8, hL8, hg8⟩
              have hbl8 := KeepL.bel HBL7.out hk8 hpa hmb
              have R1 : Hid (ARel w pa mb m ⟨true, if j + 1 = 0 then 0 else t, ((j + 1 : Nat) : Int)⟩ ((k : Int) + 2 * ((j + 1 : Nat) : Int)) w8) := Lib.hid ⟨⟨L8, hL8.mono (by omega), by rw [if_neg (by omega)]; exact hg8⟩, hbl8⟩
              clear hL8 hg8 hk8 hbl8 HC2 HBL7
              go_wp2_with fail
              go_roundw
              case rel => exact ⟨j + 1, by omega, by go_num, R1.out⟩
              case measure => simp [intOf]; omega
            · obtain rfl : j = N := by omega
              have R0 : Hid (ARel w pa mb m ⟨true, if j - 0 = 0 then 0 else t, ((j - 0 : Nat) : Int)⟩ ((k : Int) + 2 * (j : Int) + ((0 : Nat) : Int)) wr) := Lib.hid ⟨⟨L6, hL6.mono (by omega), by simpa using hg6⟩, hbl6⟩
              clear hL6 hg6 hbl6 hjN hj
              go_wp2_with fail
              go_loopw [19] (fun i wr => ∃ z : Nat, z ≤ j ∧ i = .int .i64 z ∧ ARel w pa mb m ⟨true, if j - z = 0 then 0 else t, ((j - z : Nat) : Int)⟩ ((k : Int) + 2 * (j : Int) + (z : Int)) wr) (fun i _ => j - (intOf i).toNat)
              case atStart => exact ⟨0, by omega, rfl, R0.out⟩
              case round =>
                clear R0
                obtain ⟨z, hz, rfl, hrel⟩ := hrel
                obtain ⟨L6, hL6, hg6⟩ := hrel.at_
                have hbl6 := hrel.bel
                clear hrel
                by_cases hjN : z < j
                · rw [if_neg (by omega)] at hg6
                  have hc1 := take_no hL6 (by omega) (by omega) hm hg6 hu ⟨by dsimp only; omega, htu⟩
                  have HC1 := Lib.hid hc1; clear hc1 hL6 hg6
                  have HBL6 := Lib.hid hbl6; clear hbl6
                  go_wp2_with fail
                  refine HC1.out.mono ?_
                  rintro e w7 ⟨rfl, hk7, L7, hL7, hg7⟩
                  have hbl7 := KeepL.bel HBL6.out hk7 hpa hmb
                  have hc2 := give_no hL7 (by omega) (by omega) hm hg7 hu (.inr htu)
                  have HC2 := Lib.hid hc2; clear hc2 hL7 hg7 hk7 HC1 HBL6
                  have HBL7 := Lib.hid hbl7; clear hbl7
                  go_wp2_with fail
                  refine HC2.out.mono ?_
                  rintro e w8 ⟨rfl, hk8, L8, hL8, hg8⟩
                  have hbl8 := KeepL.bel HBL7.out hk8 hpa hmb
                  have hc3 := give_ok hL8 (by omega) (by omega) hm hg8 ht (by dsimp only; omega) rfl
                  have HC3 := Lib.hid hc3; clear hc3 hL8 hg8 hk8 HC2 HBL7
                  have HBL8 := Lib.hid hbl8; clear hbl8
                  go_wp2_with fail
                  refine HC3.out.mono ?_
                  rintro e w9 ⟨rfl, hk9, L9, hL9, hg9⟩
                  have hbl9 := KeepL.bel HBL8.out hk9 hpa hmb
                  have R1 : Hid (ARel w pa mb m ⟨true, if j - (z + 1) = 0 then 0 else t, ((j - (z + 1) : Nat) : Int)⟩ ((k : Int) + 2 * (j : Int) + ((z + 1 : Nat) : Int)) w9) := Lib.hid ⟨⟨L9, hL9.mono (by omega), by
                    rw [hg9]
                    have e1 : ((j - z : Nat) : Int) - 1 = ((j - (z + 1) : Nat) : Int) := by omega
                    rw [e1]
                    by_cases e2 : j - (z + 1) = 0
                    · rw [if_pos e2, if_pos (by omega)]
                    · rw [if_neg e2, if_neg (by omega)]⟩, hbl9⟩
                  clear hL9 hg9 hk9 hbl9 HC3 HBL8
                  go_wp2_with fail
                  go_roundw
                  case rel => exact ⟨z + 1, by omega, by go_num, R1.out⟩
                  case measure => simp [intOf]; omega
                · obtain rfl : z = j := by omega
                  rw [if_pos (by omega)] at hg6
                  have hc1 := give_no hL6 (by omega) (by omega) hm hg6 ht (.inl (by dsimp only; omega))
                  have HC1 := Lib.hid hc1; clear hc1 hL6 hg6
                  have HBL6 := Lib.hid hbl6; clear hbl6
                  go_wp2_with fail
                  refine HC1.out.mono ?_
                  rintro e w7 ⟨rfl, hk7, L7, hL7, hg7⟩
                  have hbl7 := KeepL.bel HBL6.out hk7 hpa hmb
                  have hc2 := take_ok hL7 (by omega) (by omega) hm hg7 hu (.inl (by dsimp only; omega))
                  have HC2 := Lib.hid hc2; clear hc2 hL7 hg7 hk7 HC1 HBL6
                  have HBL7 := Lib.hid hbl7; clear hbl7
                  go_wp2_with fail
                  refine HC2.out.mono ?_
                  rintro e w8 ⟨rfl, hk8, L8, hL8, hg8⟩
                  have HBL8 := Lib.hid (KeepL.bel HBL7.out hk8 hpa hmb)
                  clear hL8 hg8 hk8 HC2 HBL7
                  go_wp2
                  go_ret
                  exact ⟨rfl, HBL8.out⟩
        · have hno0 : (o != 0) = true := by simpa using ho
          obtain ⟨L5, hL5, hg5⟩ := h5.at_
          have hbl5 := h5.bel
          clear h5
          have ho1 : 1 ≤ o := by omega
          have hcc : 1 ≤ ct ∧ ct ≤ k := by omega
          have hwr : IntKind.i64.wrap (ct + 1) = ct + 1 := by rw [IntKind.wrap_i64]; omega
          have hc1 := take_ok hL5 (by omega) (by omega) hm hg5 ho1 (.inr hyo)
          rw [hyc] at hc1
          have HC1 := Lib.hid hc1; clear hc1 hL5 hg5
          have HBL5 := Lib.hid hbl5; clear hbl5 hyok hyo hyc
          go_wp2_with fail
          refine HC1.out.mono ?_
          rintro e w6 ⟨rfl, hk6, L6, hL6, hg6⟩
          have hbl6 := KeepL.bel HBL5.out hk6 hpa hmb
          clear hk6 HC1 HBL5
          by_cases hot : o = t
          · have hb2 : (o != t) = false := by simpa using hot
            have hL7 := hL6
            have hg7 := hg6
            have hbl7 := hbl6
            clear hL6 hg6 hbl6 hot
            have how := owner_any hL7 hm
            unfold owV at how
            rw [hg7] at how
            dsimp only [Option.getD_some] at how
            have HOW := Lib.hid how; clear how hL7 hg7
            have HBL7 := Lib.hid hbl7; clear hbl7
            go_wp2_with fail
            refine HOW.out.mono ?_
            rintro e w9 ⟨rfl, hb9⟩
            have HB9 : Hid (Below w.heap.size w w9) := Lib.hid (HBL7.out.trans (hb9.mono (by have := HBL7.out.size; omega)))
            clear hb9 HOW HBL7
            go_wp2
            go_ret
            exact ⟨rfl, HB9.out⟩
          · have hb2 : (o != t) = true := by simpa using hot
            have hc2 := take_no hL6 (by omega) (by omega) hm hg6 ht ⟨by dsimp only; omega, hot⟩
            have HC2 := Lib.hid hc2; clear hc2 hL6 hg6 hot
            have HBL6 := Lib.hid hbl6; clear hbl6
            go_wp2_with fail
            refine HC2.out.mono ?_
            rintro e w7 ⟨rfl, hk7, L7, hL7, hg7⟩
            have hbl7 := KeepL.bel HBL6.out hk7 hpa hmb
            clear hk7 HC2 HBL6
            have how := owner_any hL7 hm
            unfold owV at how
            rw [hg7] at how
            dsimp only [Option.getD_some] at how
            have HOW := Lib.hid how; clear how hL7 hg7
            have HBL7 := Lib.hid hbl7; clear hbl7
            go_wp2_with fail
            refine HOW.out.mono ?_
            rintro e w9 ⟨rfl, hb9⟩
            have HB9 : Hid (Below w.heap.size w w9) := Lib.hid (HBL7.out.trans (hb9.mono (by have := HBL7.out.size; omega)))
            clear hb9 HOW HBL7
            go_wp2
            go_ret
            exact ⟨rfl, HB9.out⟩
      · have HBF := HB3
        clear HL3 hget
        cases bh with
        | false =>
          clear hgo
          go_wp2
          go_ret
          exact ⟨rfl, HBF.out⟩
        | true =>
          by_cases h1 : t < 1
          · clear hgo
            go_wp2
            go_ret
            exact ⟨rfl, HBF.out⟩
          · by_cases h2 : u < 1
            · clear hgo
              go_wp2
              go_ret
              exact ⟨rfl, HBF.out⟩
            · have h3' : t = u := by by_cases e : t = u; exact e; exact absurd ⟨rfl, by omega, by omega, e⟩ hgo
              have h3 : (t == u) = true := by simpa using h3'
              clear hgo
              go_wp2
              go_ret
              exact ⟨rfl, HBF.out⟩
end Go.Proofs.Ytbfnadpkgiglmaa
