/-
  SchedWakes, the walk. Conditions: the script's length.
-/
import Derived.Test.YtlmgojnhmdppnaaSc25
namespace Go.Proofs.Ytlmgojnhmdppnaa
open Go.RowKit Go.Maps
set_option linter.unusedVariables false

def W1 (w : World) (n : Nat) (wr : World) : Prop := ∃ Z, Zd wr (fun k => k < w.heap.size) w.heap.size Z ∧ Z.spawned ≤ n ∧ Keep (fun k => k < w.heap.size) w wr
/-- Behind the script: R are the ready ones, at ar; P: what holds of the threads. -/
def W2 (w : World) (n : Nat) (ar : Option Addr) (cr : Nat) (R : List Int) (P : List Th → Prop) (wr : World) : Prop :=
  ∃ Z, Zd wr (fun k => k < w.heap.size) w.heap.size Z ∧ Z.spawned ≤ n ∧ P Z.ths ∧ Keep (fun k => k < w.heap.size) w wr ∧ wr.ownsRow 0 3 1 (.slice ar R.length cr) R.length (R.map (Value.int .i64))
theorem W2.below {w wr wr' : World} {n : Nat} {ar : Option Addr} {cr : Nat} {R : List Int} {P : List Th → Prop} (h : W2 w n ar cr R P wr) (hb : Below wr.heap.size wr wr') : W2 w n ar cr R P wr' := by
  obtain ⟨Z, h1, h2, h3, h4, h5⟩ := h
  exact ⟨Z, h1.below hb, h2, h3, h4.trans (Keep.ofBelow0 hb), own_below h5 hb⟩

set_option maxRecDepth 1000000 in
set_option maxHeartbeats 4000000 in
theorem wakes_walk (a0 : Option Addr) (c0 len : Nat) (key : Int) (w : World) (hops : IsOps w a0 len) (hlen : len ≤ 5864062014805) :
    Calls Try.prog 9 #[.slice a0 len c0, .int .i64 key] w fun e w' => e = .returned (.bool true) ∧ Below w.heap.size w w' := by
  have HOPS := Lib.hid hops; clear hops
  go_enter Try.func9, Try.ntmps9
  go_wp2_with fail
  refine (new_sched 8 w (X := fun k => k < w.heap.size) (by omega)).mono ?_
  rintro e w1 ⟨rfl, a1', b1⟩
  have z1 := b1.size
  have K1 : Hid (Keep (fun k => k < w.heap.size) w w1) := Lib.hid (Keep.ofBelow0 b1)
  clear b1
  go_wp2_with fail
  refine (alive_any w1).mono ?_
  rintro e w2 ⟨rfl, b2⟩
  have hrel0 : W1 w 0 w2 := ⟨_, a1'.below b2, by simp, K1.out.trans (Keep.ofBelow0 b2)⟩
  have z2 := b2.size
  have HREL0 := Lib.hid hrel0; clear hrel0 b2 a1' K1
  go_wp2_with fail
  go_loopw [26] (fun i wr => ∃ k : Nat, k ≤ len ∧ i = .int .i64 k ∧ W1 w k wr) (fun i _ => len - (intOf i).toNat)
  case atStart => exact ⟨0, by omega, rfl, HREL0.out⟩
  case round =>
    clear HREL0
    obtain ⟨k, hk, rfl, Z, hzd, hsp, hkp⟩ := hrel
    have zr := hkp.size
    by_cases hlt : k < len
    · obtain ⟨b, off, kd, t, ky, rfl, hb, d0, d1, d2⟩ := (HOPS.out.keep (hkp.toBelow (fun _ hk => hk) (Nat.le_refl _))) k hlt
      have hzB := hzd.alloc (Obj.cells #[.int .i64 kd, .int .i64 t, .int .i64 ky] 85)
      have hkB := hkp.alloc (Obj.cells #[.int .i64 kd, .int .i64 t, .int .i64 ky] 85)
      have HZB := Lib.hid hzB; clear hzB
      have HKB := Lib.hid hkB; clear hkB
      clear hzd hkp
      by_cases h4 : kd = 4
      · subst h4
        have hrn : W1 w (k + 1) (wr.alloc (Obj.cells #[.int .i64 4, .int .i64 t, .int .i64 ky] 85)) := ⟨Z, HZB.out, by omega, HKB.out⟩
        have HRN := Lib.hid hrn; clear hrn HZB HKB
        go_wp2_with fail
        go_roundw
        case rel => exact ⟨k + 1, by omega, by go_num, HRN.out⟩
        case measure => simp [intOf]; omega
      · have q4 : (kd != 4) = true := by simpa using h4
        have hc := does_zero HZB.out (by simp; omega) kd t ky (by omega)
        have hs1 : (Z.step kd t ky).spawned ≤ ((k + 1 : Nat) : Int) := by
          by_cases h1 : kd = 1
          · subst h1
            show Z.spawn.spawned ≤ _
            unfold ZS.spawn; split
            · dsimp only; omega
            · omega
          · rw [step_sp Z kd t ky h1]; omega
        have HC := Lib.hid hc; clear hc
        have HS1 := Lib.hid hs1; clear hs1 h4
        go_wp2_with fail
        refine HC.out.mono ?_
        rintro e w3 ⟨⟨rr, rfl⟩, y3, k3, _⟩
        have hrn : W1 w (k + 1) w3 := ⟨_, y3, HS1.out, HKB.out.trans k3⟩
        have HRN := Lib.hid hrn; clear hrn y3 k3
        go_wp2_with fail
        go_roundw
        case rel => exact ⟨k + 1, by omega, by go_num, HRN.out⟩
        case measure => simp [intOf]; omega
    · have hspl : Z.spawned ≤ len := by omega
      have hrd := ready_any hzd
      have hris := hzd.ok.ris
      have hr8 : (readyT Z.ths).length ≤ 8 := by
        have := hzd.ok.eight
        unfold readyT; rw [List.length_map]; exact Nat.le_trans (List.length_filter_le _ _) this
      have hbk := Blkd.start hris key
      have hrr := ready_rising hris
      have HRIS := Lib.hid hris; clear hris
      have HBK := Lib.hid hbk; clear hbk
      have HRR := Lib.hid hrr; clear hrr
      have HRD := Lib.hid hrd; clear hrd
      have HZD := Lib.hid hzd; clear hzd
      have HKP := Lib.hid hkp; clear hkp
      generalize readyT Z.ths = R at *
      go_wp2_with fail
      refine HRD.out.mono ?_
      rintro e w3 ⟨u3, rfl, b3, o3⟩
      obtain ⟨ar, cr, rfl, _⟩ := own_ints o3
      have hw2 : W2 w len ar cr R (fun l => Blkd l R key 0) w3 := ⟨Z, HZD.out.below b3, hspl, HBK.out, HKP.out.trans (Keep.ofBelow0 b3), own_zero o3⟩
      have HW2 := Lib.hid hw2; clear hw2
      have hz3 := b3.size
      clear b3 o3 HRD HZD HKP HBK HRIS hsp hspl
      go_wp2_with fail
      go_loopw [42] (fun i wr => ∃ j : Nat, j ≤ R.length ∧ i = .int .i64 j ∧ W2 w len ar cr R (fun l => Blkd l R key j) wr) (fun i _ => R.length - (intOf i).toNat)
      case atStart => exact ⟨0, by omega, rfl, HW2.out⟩
      case round =>
        clear HW2
        obtain ⟨j, hj, rfl, Z1, hzd, hsp, hbk, hkp, hown⟩ := hrel
        have zr4 := hkp.size
        by_cases hjl : j < R.length
        · obtain ⟨bo, oo, hao, hbo, hco⟩ := (own_at hown) j hjl
          obtain ⟨n1, n2, n3⟩ := hbk.next HRR.out hjl
          generalize R.getD j 0 = t at hco n1 n2 n3
          have hbl := block_any hzd.nums t key
          rw [n1] at hbl
          have hspb : (Z1.block t key).spawned ≤ len := by unfold ZS.block; split <;> exact hsp
          generalize Z1.block t key = Z2 at hbl n2 n3 hspb
          have HBL := Lib.hid hbl; clear hbl n1
          have HN2 := Lib.hid n2; clear n2
          have HN3 := Lib.hid n3; clear n3
          have HKP := Lib.hid hkp; clear hkp
          have HOWN := Lib.hid hown; clear hown hzd hbk
          subst hao
          go_wp2_with fail
          refine HBL.out.mono ?_
          rintro e w4 ⟨rfl, y4, k4⟩
          have hs4 := state_any y4.old t
          rw [HN3.out] at hs4
          have HS4 := Lib.hid hs4; clear hs4
          have Y4 := Lib.hid y4.old
          have K4 := Lib.hid (HKP.out.trans k4.old)
          have O4 := Lib.hid (own_nums HOWN.out k4)
          clear y4 k4 HBL HKP HOWN
          go_wp2_with fail
          refine HS4.out.mono ?_
          rintro e w5 ⟨rfl, b5⟩
          have y5 := Y4.out.below b5
          have hp5 := pick_any y5.nums t
          rw [HN3.out] at hp5
          have HP5 := Lib.hid hp5; clear hp5 y5
          have K5 : Hid (Keep (fun k => k < w.heap.size) w w5) := Lib.hid (K4.out.trans (Keep.ofBelow0 b5))
          have O5 := Lib.hid (own_below O4.out b5)
          have hsp6 : (Z2.pick t).spawned ≤ len := by unfold ZS.pick; split <;> exact hspb
          have HPT : Hid ((Z2.pick t).ths = Z2.ths) := Lib.hid (pick_ths Z2 t)
          generalize Z2.pick t = Z3 at HP5 hsp6 HPT
          clear b5 Y4 K4 O4 HS4
          go_wp2_with fail
          refine HP5.out.mono ?_
          rintro e w6 ⟨rfl, y6, k6⟩
          have hrn : W2 w len (some ⟨bo, oo, none⟩) cr R (fun l => Blkd l R key (j + 1)) w6 := ⟨Z3, y6.old, hsp6, by rw [HPT.out]; exact HN2.out, K5.out.trans k6.old, own_nums O5.out k6⟩
          have HRN := Lib.hid hrn; clear hrn y6 k6 HP5 K5 O5
          go_wp2_with fail
          go_roundw
          case rel => exact ⟨j + 1, by omega, by go_num, HRN.out⟩
          case measure => simp [intOf]; omega
        · have hwt : Wt Z1.ths R key := by have := hbk.done; rwa [List.take_of_length_le (by omega)] at this
          have hw3 : W2 w len ar cr R (fun l => Wt l R key) wr := ⟨Z1, hzd, hsp, hwt, hkp, hown⟩
          have HW3 := Lib.hid hw3; clear hw3 hwt hzd hsp hbk hkp hown
          go_wp2_with fail
          go_loopw [65] (fun i wr => ∃ k : Nat, k ≤ len ∧ i = .int .i64 k ∧ W2 w len ar cr R (fun l => Wt l R key) wr) (fun i _ => len - (intOf i).toNat)
          case atStart => exact ⟨0, by omega, rfl, HW3.out⟩
          case round =>
            clear HW3
            obtain ⟨k, hk, rfl, Z2, hzd, hsp, hwt, hkp, hown⟩ := hrel
            have zr5 := hkp.size
            by_cases hlt2 : k < len
            · obtain ⟨b, off, kd, t, ky, rfl, hb, d0, d1, d2⟩ := (HOPS.out.keep (hkp.toBelow (fun _ hk => hk) (Nat.le_refl _))) k hlt2
              have hwB : W2 w len ar cr R (fun l => Wt l R key) (wr.alloc (Obj.cells #[.int .i64 kd, .int .i64 t, .int .i64 ky] 85)) := W2.below ⟨Z2, hzd, hsp, hwt, hkp, hown⟩ ((Below.refl _ _).alloc (Nat.le_refl _) _)
              have HWB := Lib.hid hwB; clear hwB
              have hzB := hzd.alloc (Obj.cells #[.int .i64 kd, .int .i64 t, .int .i64 ky] 85)
              have hkB := hkp.alloc (Obj.cells #[.int .i64 kd, .int .i64 t, .int .i64 ky] 85)
              have hoB := hown.alloc (Obj.cells #[.int .i64 kd, .int .i64 t, .int .i64 ky] 85)
              have hc := does_zero hzB (by simp; omega) kd t ky (by omega)
              have hst := fun h1 h5 => hwt.step kd t ky h1 h5
              have HST := Lib.hid hst; clear hst
              have HC := Lib.hid hc; clear hc
              have HKB := Lib.hid hkB; clear hkB
              have HOB := Lib.hid hoB; clear hoB
              clear hzB hzd hwt hkp hown
              by_cases h1 : kd = 1
              · subst h1
                go_wp2_with fail
                go_roundw
                case rel => exact ⟨k + 1, by omega, by go_num, HWB.out⟩
                case measure => simp [intOf]; omega
              · have q1 : (kd == 1) = false := by simpa using h1
                by_cases h5 : kd = 5
                · subst h5
                  by_cases hky : ky = key
                  · subst hky
                    have qk : (ky == ky) = true := by simp
                    go_wp2_with fail
                    go_roundw
                    case rel => exact ⟨k + 1, by omega, by go_num, HWB.out⟩
                    case measure => simp [intOf]; omega
                  · have qk : (ky == key) = false := by simpa using hky
                    have hwn := HST.out h1 (fun hh => hky hh.2)
                    have hsn : (Z2.step 5 t ky).spawned ≤ len := by rw [step_sp Z2 5 t ky h1]; exact hsp
                    generalize Z2.step 5 t ky = Z3 at HC hwn hsn
                    have HWN := Lib.hid hwn; clear hwn HST hky h1
                    go_wp2_with fail
                    refine HC.out.mono ?_
                    rintro e w6 ⟨⟨rr, rfl⟩, y6, k6, n6⟩
                    have hw6 : W2 w len ar cr R (fun l => Wt l R key) w6 := ⟨Z3, y6, hsn, HWN.out, HKB.out.trans k6, num_own HOB.out n6⟩
                    have hio := own_at (num_own HOB.out n6)
                    have HST : Hid (∀ t ∈ R, ∀ wq, Below w6.heap.size w6 wq → Calls Try.prog 45 #[.pointer (some ⟨w.heap.size, 0, none⟩), .int .i64 t] wq fun e w' => e = .returned (.int .i64 2) ∧ Below wq.heap.size wq w') := Lib.hid (fun t ht wq hb => by have := state_any (y6.below hb) t; rw [(HWN.out t ht).1] at this; exact this)
                    have HIO := Lib.hid hio; clear hio
                    have HW6 := Lib.hid hw6; clear hw6
                    clear y6 k6 n6 HC HKB HOB HWB
                    go_wp2_with fail
                    go_loopw [89] (fun i wq => ∃ j : Nat, j ≤ R.length ∧ i = .int .i64 j ∧ Below w6.heap.size w6 wq) (fun i _ => R.length - (intOf i).toNat)
                    case atStart => exact ⟨0, by omega, rfl, Below.refl _ _⟩
                    case round =>
                      obtain ⟨j, hj, rfl, hbv⟩ := hrel
                      have zv := hbv.size
                      have HBV := Lib.hid hbv; clear hbv
                      by_cases hjl : j < R.length
                      · obtain ⟨bo, oo, hao, hbo, hco⟩ := (HIO.out.below HBV.out) j hjl
                        have hst := HST.out (R.getD j 0) (by rw [List.getD_eq_getElem?_getD, List.getElem?_eq_getElem hjl]; exact List.getElem_mem _) _ HBV.out
                        generalize R.getD j 0 = tt at hco hst
                        have HS1 := Lib.hid hst; clear hst
                        subst hao
                        go_wp2_with fail
                        refine HS1.out.mono ?_
                        rintro e w7 ⟨rfl, b7⟩
                        have HB7 := Lib.hid (HBV.out.trans (b7.mono zv)); clear b7
                        go_wp2_with fail
                        go_roundw
                        case rel => exact ⟨j + 1, by omega, by go_num, HB7.out⟩
                        case measure => simp [intOf]; omega
                      · have hrn := HW6.out.below HBV.out
                        have HRN := Lib.hid hrn; clear hrn
                        go_wp2_with fail
                        go_roundw
                        case rel => exact ⟨k + 1, by omega, by go_num, HRN.out⟩
                        case measure => simp [intOf]; omega
                · have q5 : (kd == 5) = false := by simpa using h5
                  have hwn := HST.out h1 (fun hh => h5 hh.1)
                  have hsn : (Z2.step kd t ky).spawned ≤ len := by rw [step_sp Z2 kd t ky h1]; exact hsp
                  generalize Z2.step kd t ky = Z3 at HC hwn hsn
                  have HWN := Lib.hid hwn; clear hwn HST h1 h5
                  go_wp2_with fail
                  refine HC.out.mono ?_
                  rintro e w6 ⟨⟨rr, rfl⟩, y6, k6, n6⟩
                  have hw6 : W2 w len ar cr R (fun l => Wt l R key) w6 := ⟨Z3, y6, hsn, HWN.out, HKB.out.trans k6, num_own HOB.out n6⟩
                  have hio := own_at (num_own HOB.out n6)
                  have HST : Hid (∀ t ∈ R, ∀ wq, Below w6.heap.size w6 wq → Calls Try.prog 45 #[.pointer (some ⟨w.heap.size, 0, none⟩), .int .i64 t] wq fun e w' => e = .returned (.int .i64 2) ∧ Below wq.heap.size wq w') := Lib.hid (fun t ht wq hb => by have := state_any (y6.below hb) t; rw [(HWN.out t ht).1] at this; exact this)
                  have HIO := Lib.hid hio; clear hio
                  have HW6 := Lib.hid hw6; clear hw6
                  clear y6 k6 n6 HC HKB HOB HWB
                  go_wp2_with fail
                  go_loopw [89] (fun i wq => ∃ j : Nat, j ≤ R.length ∧ i = .int .i64 j ∧ Below w6.heap.size w6 wq) (fun i _ => R.length - (intOf i).toNat)
                  case atStart => exact ⟨0, by omega, rfl, Below.refl _ _⟩
                  case round =>
                    obtain ⟨j, hj, rfl, hbv⟩ := hrel
                    have zv := hbv.size
                    have HBV := Lib.hid hbv; clear hbv
                    by_cases hjl : j < R.length
                    · obtain ⟨bo, oo, hao, hbo, hco⟩ := (HIO.out.below HBV.out) j hjl
                      have hst := HST.out (R.getD j 0) (by rw [List.getD_eq_getElem?_getD, List.getElem?_eq_getElem hjl]; exact List.getElem_mem _) _ HBV.out
                      generalize R.getD j 0 = tt at hco hst
                      have HS1 := Lib.hid hst; clear hst
                      subst hao
                      go_wp2_with fail
                      refine HS1.out.mono ?_
                      rintro e w7 ⟨rfl, b7⟩
                      have HB7 := Lib.hid (HBV.out.trans (b7.mono zv)); clear b7
                      go_wp2_with fail
                      go_roundw
                      case rel => exact ⟨j + 1, by omega, by go_num, HB7.out⟩
                      case measure => simp [intOf]; omega
                    · have hrn := HW6.out.below HBV.out
                      have HRN := Lib.hid hrn; clear hrn
                      go_wp2_with fail
                      go_roundw
                      case rel => exact ⟨k + 1, by omega, by go_num, HRN.out⟩
                      case measure => simp [intOf]; omega
            · have hwk := wake_any hzd.nums key
              have hge := waits_ge hzd.ok.ris HRR.out hwt
              have hw8 : waits Z2.ths key ≤ 8 := by
                have := hzd.ok.eight
                unfold waits; exact Nat.le_trans (List.length_filter_le _ _) this
              have hwo := wt_woken hwt
              have hw0 := waits_wake Z2.ths key
              have hspw : (Z2.wake key).spawned ≤ len := hsp
              have hths : (Z2.wake key).ths = wakeT Z2.ths key := rfl
              generalize waits Z2.ths key = c at hwk hge hw8
              generalize Z2.wake key = Z3 at hwk hspw hths
              rw [← hths] at hwo hw0
              have HWK := Lib.hid hwk; clear hwk
              have HWO := Lib.hid hwo; clear hwo
              have HW0 := Lib.hid hw0; clear hw0
              have HKP := Lib.hid hkp; clear hkp
              have HOWN := Lib.hid hown; clear hown hzd hwt hths
              have hcl : ¬ (c : Int) < (R.length : Int) := by omega
              go_wp2_with fail
              refine HWK.out.mono ?_
              rintro e w6 ⟨rfl, y6, k6⟩
              have hw4 : W2 w len ar cr R (fun l => (∀ t ∈ R, stOf l t = 1) ∧ waits l key = 0) w6 := ⟨Z3, y6.old, hspw, ⟨HWO.out, HW0.out⟩, HKP.out.trans k6.old, own_nums HOWN.out k6⟩
              have hz6 := k6.size
              have HW4 := Lib.hid hw4; clear hw4 y6 k6 HWK HKP HOWN HWO HW0
              go_wp2_with fail
              rw [show decide (c < R.length) = false from by simp; omega]
              clear hcl hge hw8
              go_loopw [107] (fun i wr => ∃ j : Nat, j ≤ R.length ∧ i = .int .i64 j ∧ W2 w len ar cr R (fun l => (∀ t ∈ R, stOf l t = 1) ∧ waits l key = 0) wr) (fun i _ => R.length - (intOf i).toNat)
              case atStart => exact ⟨0, by omega, rfl, HW4.out⟩
              case round =>
                clear HW4
                obtain ⟨j, hj, rfl, Z4, hzd, hsp, ⟨hone, hzero⟩, hkp, hown⟩ := hrel
                by_cases hjl : j < R.length
                · obtain ⟨bo, oo, hao, hbo, hco⟩ := (own_at hown) j hjl
                  have h1 := hone (R.getD j 0) (by rw [List.getD_eq_getElem?_getD, List.getElem?_eq_getElem hjl]; exact List.getElem_mem _)
                  generalize R.getD j 0 = t at hco h1
                  have hst := state_any hzd t
                  rw [h1] at hst
                  have HST := Lib.hid hst; clear hst
                  have HPK : Hid (∀ W, Zd W (fun k => k < w.heap.size) w.heap.size Z4 → Calls Try.prog 50 #[.pointer (some ⟨w.heap.size, 0, none⟩), .int .i64 t] W fun e w' => e = .returned (.bool true) ∧ Zd w' (nums w.heap.size W) w.heap.size (Z4.pick t) ∧ Keep (nums w.heap.size W) W w') := Lib.hid (fun W hh => by have := pick_any hh.nums t; rw [h1] at this; exact this)
                  have hsp6 : (Z4.pick t).spawned ≤ len := by unfold ZS.pick; split <;> exact hsp
                  have HPT : Hid ((Z4.pick t).ths = Z4.ths) := Lib.hid (pick_ths Z4 t)
                  have HP : Hid ((∀ t ∈ R, stOf (Z4.pick t).ths t = 1)) := Lib.hid (fun u hu => by rw [pick_ths]; exact hone u hu)
                  have HON := Lib.hid (show (∀ t ∈ R, stOf Z4.ths t = 1) ∧ waits Z4.ths key = 0 from ⟨hone, hzero⟩)
                  have HZD := Lib.hid hzd; clear hzd
                  have HKP := Lib.hid hkp; clear hkp
                  have HOWN := Lib.hid hown; clear hown h1 hone hzero
                  subst hao
                  go_wp2_with fail
                  refine HST.out.mono ?_
                  rintro e w7 ⟨rfl, b7⟩
                  have HP7 := Lib.hid (HPK.out w7 (HZD.out.below b7))
                  have K7 : Hid (Keep (fun k => k < w.heap.size) w w7) := Lib.hid (HKP.out.trans (Keep.ofBelow0 b7))
                  have O7 := Lib.hid (own_below HOWN.out b7)
                  clear b7 HPK HST
                  go_wp2_with fail
                  refine HP7.out.mono ?_
                  rintro e w8 ⟨rfl, y8, k8⟩
                  have hrn : W2 w len (some ⟨bo, oo, none⟩) cr R (fun l => (∀ t ∈ R, stOf l t = 1) ∧ waits l key = 0) w8 := ⟨_, y8.old, hsp6, by rw [HPT.out]; exact HON.out, K7.out.trans k8.old, own_nums O7.out k8⟩
                  have HRN := Lib.hid hrn; clear hrn y8 k8 HP7
                  go_wp2_with fail
                  go_roundw
                  case rel => exact ⟨j + 1, by omega, by go_num, HRN.out⟩
                  case measure => simp [intOf]; omega
                · have hwk2 := wake_any hzd key
                  rw [hzero] at hwk2
                  have HWK2 := Lib.hid hwk2; clear hwk2
                  have HKP := Lib.hid hkp; clear hkp hzd hown hone hzero
                  go_wp2_with fail
                  refine HWK2.out.mono ?_
                  rintro e w9 ⟨rfl, _, k9⟩
                  have K9 := Lib.hid (HKP.out.trans k9); clear k9
                  go_wp2_with fail
                  go_ret
                  exact ⟨rfl, K9.out.toBelow (fun _ hk => hk) (Nat.le_refl _)⟩
end Go.Proofs.Ytlmgojnhmdppnaa
