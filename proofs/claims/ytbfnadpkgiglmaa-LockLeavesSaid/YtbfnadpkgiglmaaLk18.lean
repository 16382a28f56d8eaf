/-
  LockLeaves, the walk. Conditions: the script's length.
-/
import Derived.Test.YtbfnadpkgiglmaaLk16
namespace Go.Proofs.Ytbfnadpkgiglmaa
open Go.RowKit Go.Maps
set_option linter.unusedVariables false
set_option linter.unusedSimpArgs false

/-- Going through a thread's mutexes, taking each: those that are still to come have nobody. -/
structure MRel (w6 : World) (pa mb : Nat) (O : List Int) (c : Int) (k : Nat) (wr : World) : Prop where
  at_ : ∃ L, LkAt wr pa mb L c ∧ ∀ j, k ≤ j → j < O.length → LS.get L (O.getD j 0) = some ⟨true, 0, 0⟩
  kp : KeepL pa mb w6 wr
theorem take_both {w : World} {pa mb : Nat} {L : LS} {c : Int} {m u : Int} (h : LkAt w pa mb L c) (hc0 : 0 ≤ c) (hcb : c < 4611686018427387904) (hm : (ik m).wf = true) (hy : LS.get L m = some ⟨true, 0, 0⟩) :
    Calls Try.prog 16 #[.pointer (some ⟨pa, 0, none⟩), .int .i64 m, .int .i64 u] w fun e w' => e = .returned (.int .i64 (if u < 1 then 1 else 0)) ∧ KeepL pa mb w w' ∧ ∃ L', LkAt w' pa mb L' (c + 1) ∧ ∀ k, k ≠ m → LS.get L' k = LS.get L k := by
  refine (take_any h hc0 hcb hm u).mono ?_
  rintro e w' ⟨rfl, ha, hk⟩
  refine ⟨?_, hk, _, ha, fun k hkm => ?_⟩
  · unfold LS.takeErr; rw [hy]; dsimp only
    by_cases h1 : u < 1
    · rw [if_pos h1, if_pos h1]
    · rw [if_neg h1, if_neg h1, if_neg (by omega)]
  · unfold LS.take; rw [hy]; dsimp only
    by_cases h1 : u < 1
    · rw [if_pos h1]
    · rw [if_neg h1, if_neg (by omega)]
      obtain ⟨i, rfl, hi, _, _⟩ := get_some hy
      have e : ((i : Int) + 1 - 1).toNat = i := by omega
      unfold LS.put
      rw [e, get_set i _ hi, if_neg hkm]
theorem nodup_ne {O : List Int} (h : O.Nodup) {i j : Nat} (hi : i < O.length) (hj : j < O.length) (hij : i < j) : O.getD j 0 ≠ O.getD i 0 := by
  have e1 : O.getD i 0 = O[i] := by simp [List.getD, hi]
  have e2 : O.getD j 0 = O[j] := by simp [List.getD, hj]
  rw [e1, e2]
  exact Ne.symm (List.pairwise_iff_getElem.1 h i j hi hj hij)

set_option maxRecDepth 1000000 in
set_option maxHeartbeats 40000000 in
theorem leaves_walk (a1 : Option Addr) (c1 len : Nat) (t u : Int) (w : World) (hops : IsOps w a1 len) (hlen : len ≤ 5864062014805) :
    Calls Try.prog 5 #[.slice a1 len c1, .int .i64 t, .int .i64 u] w fun e w' => e = .returned (.bool true) ∧ Below w.heap.size w w' := by
  obtain ⟨i0, hi0, hz0, hz1', hz2'⟩ := info_parts info3
  have HOPS := Lib.hid hops; clear hops
  go_enter Try.func5, Try.ntmps5
  go_wp2_with fail
  refine (new_any w).mono ?_
  rintro e w1 ⟨pa, mb, rfl, h, hpa, hmb, hb⟩
  have hz1 := hb.size
  have HB := Lib.hid hb; clear hb
  have HH := Lib.hid h; clear h
  go_wp2_with fail
  refine (alive_any w1).mono ?_
  rintro e w2 ⟨rfl, hb2⟩
  have REL0 : Hid (SRel w pa mb 0 w2) := Lib.hid ⟨⟨[], HH.out.below hb2, by simp⟩, HB.out.trans (hb2.mono hz1)⟩
  clear hb2 HB HH
  go_wp2_with fail
  go_loopw [33] (fun i wr => ∃ k : Nat, k ≤ len ∧ i = .int .i64 k ∧ SRel w pa mb k wr) (fun i _ => len - (intOf i).toNat)
  case atStart => exact ⟨0, by omega, rfl, REL0.out⟩
  case round =>
    clear REL0
    obtain ⟨k, hk, rfl, hrel⟩ := hrel
    obtain ⟨L, hL, hLk⟩ := hrel.at_
    have hbel := hrel.bel
    have hzr := hbel.size
    clear hrel
    by_cases hlt : k < len
    · obtain ⟨b, off, kd, om, ot, rfl, hb, d0, d1, d2, wm, wt⟩ := (HOPS.out.keep hbel) k hlt
      have h1 := (hL.alloc (.cells #[.int .i64 kd, .int .i64 om, .int .i64 ot] 29)).alloc (Obj.cells #[] 35)
      have hra : RAt ((wr.alloc (.cells #[.int .i64 kd, .int .i64 om, .int .i64 ot] 29)).alloc (Obj.cells #[] 35)) (.slice (some ⟨wr.heap.size + 1, 0, none⟩) 0 0) [] := by
        have := row_made (wr.alloc (.cells #[.int .i64 kd, .int .i64 om, .int .i64 ot] 29)) 0 (Nat.zero_le _)
        simpa [RAt] using this
      have hc := does_nil h1 hra (by omega) (by omega) (by omega) kd om ot wm wt
      have hln := length_step L kd om ot
      generalize LS.step L kd om ot = L2 at *
      have HC := Lib.hid hc; clear hc
      have HBL : Hid (Below w.heap.size w ((wr.alloc (.cells #[.int .i64 kd, .int .i64 om, .int .i64 ot] 29)).alloc (Obj.cells #[] 35))) := Lib.hid ((hbel.alloc hzr _).alloc (by simp; omega) _)
      clear h1 hra hL hbel
      go_wp2_with fail
      refine HC.out.mono ?_
      rintro e w4 ⟨v, b4, rfl, h4, hk4⟩
      have HF : Hid (SRel w pa mb (k + 1) w4) := Lib.hid ⟨⟨L2, h4.mono (by omega), by omega⟩, KeepL.bel HBL.out hk4 hpa hmb⟩
      clear h4 hk4 HC HBL
      go_wp2_with fail
      go_roundw
      case rel => exact ⟨k + 1, by omega, by go_num, HF.out⟩
      case measure => simp [intOf]; omega
    · obtain rfl : k = len := by omega
      clear HOPS hlt hk
      have hfew := hL.ok.few
      obtain ⟨wa, hwa⟩ : ∃ x, x = wr := ⟨_, rfl⟩
      subst hwa
      have hL2 := (hL.alloc (Obj.cells #[] 3)).alloc (Obj.cells #[] 3)
      have hall := all_any hL2
      have htw : Two ((wa.alloc (Obj.cells #[] 3)).alloc (Obj.cells #[] 3)) wa.heap.size (.slice (some ⟨wa.heap.size, 0, none⟩) 0 0) (.slice (some ⟨wa.heap.size + 1, 0, none⟩) 0 0) [] [] := by
        refine ⟨(World.ownsRow_made wa #[] 0 (Nat.le_refl _) (by unfold maxLen; omega) rfl).alloc _, ?_, ?_⟩
        · have := World.ownsRow_made (base := wa.heap.size) (e := 3) (size := 1) (wa.alloc (Obj.cells #[] 3)) #[] 0 (by simp) (by unfold maxLen; omega) rfl
          simpa using this
        · intro g h1 h2
          simp only [Value.ownBlock, Option.some.injEq] at h1 h2
          omega
      have HL := Lib.hid hL2; clear hL2 hL
      have HTW := Lib.hid htw; clear htw
      have HB : Hid (Below w.heap.size w ((wa.alloc (Obj.cells #[] 3)).alloc (Obj.cells #[] 3))) := Lib.hid ((hbel.alloc hzr _).alloc (by simp; omega) _); clear hbel
      have HALL := Lib.hid hall; clear hall
      go_wp2_with fail
      refine HALL.out.mono ?_
      rintro e w3 ⟨va, rfl, hrow, hb3⟩
      obtain ⟨aa, ca, rfl, hin⟩ := own_ints hrow
      have hbase : ∀ b off, aa = some ⟨b, off, none⟩ → wa.heap.size + 2 ≤ b := by
        rintro b off rfl
        have := (own_type hrow (g := b) rfl).1
        simpa using this
      have hb3s := hb3.size
      simp at hb3s
      have REL1 : Hid (LRel w wa.heap.size pa mb L k t aa (.slice (some ⟨wa.heap.size, 0, none⟩) 0 0) (.slice (some ⟨wa.heap.size + 1, 0, none⟩) 0 0) 0 w3) := Lib.hid ⟨HTW.out.below hb3, hin, fun b off e hv => by
          have := hbase b off e
          simp only [Value.ownBlock, Option.some.injEq] at hv
          omega, fun b off e hv => by
          have := hbase b off e
          simp only [Value.ownBlock, Option.some.injEq] at hv
          omega, HL.out.below hb3, HB.out.trans (hb3.mono (by simp; omega)), by omega⟩
      clear hrow hb3 hin HALL HB HL HTW hbase
      go_wp2_with fail
      go_loopw [10, 11, 47] (fun v1 v2 i wr => ∃ j : Nat, j ≤ (LS.all L).length ∧ i = .int .i64 j ∧ LRel w wa.heap.size pa mb L k t aa v1 v2 j wr) (fun _ _ i _ => (LS.all L).length - (intOf i).toNat)
      case atStart => exact ⟨0, by omega, rfl, REL1.out⟩
      case round =>
        clear REL1
        obtain ⟨j, hj, rfl, hrel⟩ := hrel
        have hzq := hrel.bel.size
        have hzB := hrel.siz
        by_cases hlj : j < (LS.all L).length
        · obtain ⟨b, off, rfl, hbl, hcell⟩ := hrel.ints j hlj
          obtain ⟨x, hx, hhas, hgd, i, him, hil⟩ := some_at L t j hlj
          have hs := some_succ L t j hlj
          have ho := others_succ L t j hlj
          have hsl := some_len L t j
          have hol := others_len L t j
          rw [hhas] at hs ho
          rw [hgd] at ho
          clear hhas hgd
          generalize (LS.all L).getD j 0 = m at *
          have hwf : (ik m).wf = true := ik_wf (by omega) (by omega)
          have how := owner_any hrel.at_ hwf
          unfold owV at how
          rw [hx] at how
          dsimp only [Option.getD_some] at how
          have HOW := Lib.hid how; clear how hx
          have HREL := Lib.hid hrel; clear hrel him
          generalize x.ct = ct at *
          generalize x.ow = ow at *
          clear x
          go_wp2_with fail
          refine HOW.out.mono ?_
          rintro e w4 ⟨rfl, hb4⟩
          have hrel4 := HREL.out.below hb4
          have hb4s := hb4.size
          have hcell4 := hb4.cell (p := ⟨b, off + j, none⟩) hbl
          have hbl4 : b < w4.heap.size := by omega
          clear hb4 HOW HREL hcell hcell4
          by_cases h0 : 0 < ct
          · by_cases h1 : ow = t
            · rw [if_pos (by simp [h0, h1])] at hs
              rw [if_neg (by simp [h0, h1]), List.append_nil] at ho
              have hb1 : (ow == t) = true := by simpa using h1
              clear h1
              have hrelA := hrel4.below ((Below.refl _ _).alloc (Nat.le_refl _) (Obj.cells #[.int .i64 m] 3))
              have hszA : wa.heap.size ≤ w4.heap.size := by omega
              have HP := Lib.hid (fun (g cap : Nat) (w' : World) (h1 : w'.ownsRow wa.heap.size 3 1 (.slice (some ⟨g, 0, none⟩) ((LS.some L t j).length + 1) cap) ((LS.some L t j).length + 1) ((LS.some L t j).map (Value.int .i64) ++ [.int .i64 m])) (h2 : (w4.alloc (Obj.cells #[.int .i64 m] 3)).grownBy w' u10.ownBlock) (h3 : u10.ownBlock = some g ∨ g = w4.heap.size + 1) => hrelA.push1 (by omega) (by simp; omega) hs ho h1 h2 (by simpa using h3))
              have HROW := Lib.hid hrelA.two.o1
              clear hrelA hrel4 hs ho
              generalize LS.some L t j = S at *
              go_wp2_with (at_builtin; refine wpList_append_lies _ rfl _ _ 38 rfl wa.heap.size 3 i0 (.int .i64 0) 1 8 Try.underlying38 hi0 hz0 hz1' hz2' rfl (by decide) _ S.length _ rfl HROW.out ⟨w4.heap.size, 0, none⟩ 1 1 [.int .i64 m] rfl rfl (cell_one_new w4 (.int .i64 m) 3) (ints_oneCell .i64 [m]) (by decide) (by unfold maxLen; omega) (by omega) (by simp; omega) (w4.heap.size + 1) (by simp) ?_)
              intro g1 capg1 w5 hown hgr hat hltg1
              have HF := Lib.hid (HP.out g1 capg1 w5 hown hgr hat)
              clear hown hgr hat HP HROW
              go_wp2_with fail
              go_roundw
              case rel => exact ⟨j + 1, by omega, by go_num, HF.out⟩
              case measure => simp [intOf]; omega
            · rw [if_neg (by simp [h0, h1]), List.append_nil] at hs
              rw [if_pos (by simp [h0, h1])] at ho
              have hb1 : (ow == t) = false := by simpa using h1
              clear h1
              have hrelA := hrel4.below ((Below.refl _ _).alloc (Nat.le_refl _) (Obj.cells #[.int .i64 m] 3))
              have hszA : wa.heap.size ≤ w4.heap.size := by omega
              have HP := Lib.hid (fun (g cap : Nat) (w' : World) (h1 : w'.ownsRow wa.heap.size 3 1 (.slice (some ⟨g, 0, none⟩) ((LS.others L t j).length + 1) cap) ((LS.others L t j).length + 1) ((LS.others L t j).map (Value.int .i64) ++ [.int .i64 m])) (h2 : (w4.alloc (Obj.cells #[.int .i64 m] 3)).grownBy w' u11.ownBlock) (h3 : u11.ownBlock = some g ∨ g = w4.heap.size + 1) => hrelA.push2 (by omega) (by simp; omega) hs ho h1 h2 (by simpa using h3))
              have HROW := Lib.hid hrelA.two.o2
              clear hrelA hrel4 hs ho
              generalize LS.others L t j = S at *
              go_wp2_with (at_builtin; refine wpList_append_lies _ rfl _ _ 38 rfl wa.heap.size 3 i0 (.int .i64 0) 1 8 Try.underlying38 hi0 hz0 hz1' hz2' rfl (by decide) _ S.length _ rfl HROW.out ⟨w4.heap.size, 0, none⟩ 1 1 [.int .i64 m] rfl rfl (cell_one_new w4 (.int .i64 m) 3) (ints_oneCell .i64 [m]) (by decide) (by unfold maxLen; omega) (by omega) (by simp; omega) (w4.heap.size + 1) (by simp) ?_)
              intro g1 capg1 w5 hown hgr hat hltg1
              have HF := Lib.hid (HP.out g1 capg1 w5 hown hgr hat)
              clear hown hgr hat HP HROW
              go_wp2_with fail
              go_roundw
              case rel => exact ⟨j + 1, by omega, by go_num, HF.out⟩
              case measure => simp [intOf]; omega
          · rw [if_neg (by simp [h0]), List.append_nil] at hs
            rw [if_neg (by simp [h0]), List.append_nil] at ho
            have HF := Lib.hid (hrel4.stay hs ho); clear hrel4 hs ho
            go_wp2_with fail
            go_roundw
            case rel => exact ⟨j + 1, by omega, by go_num, HF.out⟩
            case measure => simp [intOf]; omega
        · obtain rfl : j = (LS.all L).length := by omega
          have hrow1 := hrel.two.o1
          have hrow2 := hrel.two.o2
          have hat := hrel.at_
          have hbl := hrel.bel
          rw [some_all] at hrow1
          have hge : Hid (∀ m ∈ LS.others L t (LS.all L).length, ∃ x, LS.get (LS.leave L t) m = some x ∧ 0 < x.ct ∧ ∃ i : Nat, m = (i : Int) + 1 ∧ i < L.length) := Lib.hid (fun m hm => others_get hm)
          have hoe : Hid (∀ m ∈ LS.own L t, LS.get (LS.leave L t) m = some ⟨true, 0, 0⟩ ∧ ∃ i : Nat, m = (i : Int) + 1 ∧ i < L.length) := Lib.hid (fun m hm => own_get hm)
          have hnd : Hid ((LS.own L t).Nodup) := Lib.hid ((upto_nodup _ _).filter _)
          have hol : (LS.own L t).length ≤ 8 := Nat.le_trans (List.length_filter_le _ _) hfew
          have hol2 := others_len L t (LS.all L).length
          clear hrel
          obtain ⟨am, cm, rfl, hi1⟩ := own_ints hrow1
          obtain ⟨ao, co, rfl, hi2⟩ := own_ints hrow2
          have hlv := leave_any hat (by omega) (by omega) t
          have hr1 : ∀ W, KeepL pa mb wr W → IntsAt W am (LS.own L t) := fun W hW => by
            obtain ⟨a', c', hv, hi⟩ := own_ints (own_locks hrow1 hat hW (by decide))
            injection hv with hv
            subst hv; exact hi
          have hr2 : ∀ W, KeepL pa mb wr W → IntsAt W ao (LS.others L t (LS.all L).length) := fun W hW => by
            obtain ⟨a', c', hv, hi⟩ := own_ints (own_locks hrow2 hat hW (by decide))
            injection hv with hv
            subst hv; exact hi
          have hlv2 := fun W (h : LkAt W pa mb (LS.leave L t) k) => (leave_any h (by omega) (by unfold LS.leave; rw [length_clr]; omega) t)
          have hlen2 : (LS.leave L t).length = L.length := by unfold LS.leave; rw [length_clr]
          rw [own_again, leave_again] at hlv2
          have HLV := Lib.hid hlv; clear hlv
          have HLV2 := Lib.hid hlv2; clear hlv2
          have HR1 := Lib.hid hr1; clear hr1
          have HR2 := Lib.hid hr2; clear hr2
          have HBL := Lib.hid hbl; clear hbl hrow1 hrow2 hat hi1 hi2
          generalize LS.own L t = O at *
          generalize LS.others L t (LS.all L).length = Q at *
          generalize LS.leave L t = L3 at *
          go_wp2_with fail
          refine HLV.out.mono ?_
          rintro e w4 ⟨v, rfl, hrow, hat4, hk4⟩
          obtain ⟨al, cl, rfl, hil⟩ := own_ints hrow
          have hsm := same_any (c := cl) (c' := cm) hil (HR1.out w4 hk4) (by omega)
          have HSM := Lib.hid hsm; clear hsm hil hrow HLV
          have HAT4 := Lib.hid hat4; clear hat4
          have HK4 := Lib.hid hk4; clear hk4
          go_wp2_with fail
          refine HSM.out.mono ?_
          rintro e w5 ⟨rfl, q, rfl⟩
          have hat5 : LkAt (w4.drewN q) pa mb L3 k := HAT4.out.keep (X := fun _ => True) ((Keep.refl _ w4).drewN q) trivial trivial
          have hk5 : KeepL pa mb wr (w4.drewN q) := HK4.out.drewN q
          have hlv5 := HLV2.out _ hat5
          clear HLV2 HSM HAT4 HK4 hat5
          have HLV5 := Lib.hid hlv5; clear hlv5
          have HK5 := Lib.hid hk5; clear hk5
          go_wp2_with fail
          refine HLV5.out.mono ?_
          rintro e w6 ⟨v, rfl, hrow, hat6, hk6⟩
          obtain ⟨z, hzz⟩ : ∃ z : List Int, z = [] := ⟨_, rfl⟩
          rw [← hzz] at hrow
          have hz1n : (((z.length : Nat) : Int) != 0) = false := by rw [hzz]; rfl
          have hzb : z.length ≤ 8 := by rw [hzz]; simp
          clear hzz
          obtain ⟨az, cz, rfl, _⟩ := own_ints hrow
          have hkk : KeepL pa mb wr w6 := HK5.out.trans hk6
          have hq2 := HR2.out w6 hkk
          have hq1 : ∀ W, KeepL pa mb w6 W → IntsAt W am O := fun W hW => HR1.out W (hkk.trans hW)
          have hbl6 := KeepL.bel HBL.out hkk hpa hmb
          have HAT6 := Lib.hid hat6
          have HQ2 := Lib.hid hq2
          have HQ1 := Lib.hid hq1
          have HBL6 := Lib.hid hbl6
          clear hrow hat6 hk6 hkk hq2 hq1 hbl6 HLV5 HK5 HR1 HR2 HBL hj hlj
          have hmm : ∀ i : Nat, i < L.length → (ik ((i : Int) + 1)).wf = true := fun i hi => ik_wf (by omega) (by omega)
          have HWF := Lib.hid hmm; clear hmm
          have REL2 : Hid (Below w6.heap.size w6 w6) := Lib.hid (Below.refl _ _)
          go_wp2_with fail
          go_loopw [90] (fun i wr => ∃ j : Nat, j ≤ Q.length ∧ i = .int .i64 j ∧ Below w6.heap.size w6 wr) (fun i _ => Q.length - (intOf i).toNat)
          case atStart => exact ⟨0, by omega, rfl, REL2.out⟩
          case round =>
            clear REL2
            obtain ⟨j, hj, rfl, hb⟩ := hrel
            have hzs := hb.size
            by_cases hlj : j < Q.length
            · obtain ⟨b, off, rfl, hbl, hcell⟩ := (HQ2.out.below hb) j hlj
              have hmem : Q.getD j 0 ∈ Q := by simp [List.getD, hlj]
              obtain ⟨x, hx, hxc, i, him, hil⟩ := hge.out _ hmem
              have hwf := HWF.out i hil
              rw [← him] at hwf
              clear him hmem
              generalize Q.getD j 0 = m at *
              have how := owner_any (HAT6.out.below hb) hwf
              unfold owV at how
              rw [hx] at how
              dsimp only [Option.getD_some] at how
              have hxn : (x.ct == 0) = false := by simp; omega
              have HOW := Lib.hid how; clear how hx
              have HB := Lib.hid hb; clear hb
              generalize x.ct = ct at *
              generalize x.ow = ow at *
              clear x
              go_wp2_with fail
              refine HOW.out.mono ?_
              rintro e w7 ⟨rfl, hb7⟩
              have HB7 : Hid (Below w6.heap.size w6 w7) := Lib.hid (HB.out.trans (hb7.mono hzs))
              clear hb7 HOW HB
              go_wp2_with fail
              go_roundw
              case rel => exact ⟨j + 1, by omega, by go_num, HB7.out⟩
              case measure => simp [intOf]; omega
            · have REL3 : Hid (MRel w6 pa mb O ((k : Int) + 1 + ((0 : Nat) : Int)) 0 wr) := Lib.hid ⟨⟨L3, (HAT6.out.below hb).mono (by omega), fun j _ hj => (hoe.out _ (by simp [List.getD, hj])).1⟩, Keep.ofBelow0 hb⟩
              clear hb hge HQ2
              go_wp2_with fail
              clear hlj hj
              go_loopw [105] (fun i wr => ∃ j : Nat, j ≤ O.length ∧ i = .int .i64 j ∧ MRel w6 pa mb O ((k : Int) + 1 + (j : Int)) j wr) (fun i _ => O.length - (intOf i).toNat)
              case atStart => exact ⟨0, by omega, rfl, REL3.out⟩
              case round =>
                clear REL3
                obtain ⟨j, hj, rfl, hrel⟩ := hrel
                by_cases hlj : j < O.length
                · obtain ⟨L4, hL4, hg4⟩ := hrel.at_
                  have hkp := hrel.kp
                  have hnxt : ∀ i, j + 1 ≤ i → i < O.length → O.getD i 0 ≠ O.getD j 0 := fun i h1 h2 => nodup_ne hnd.out hlj h2 (by omega)
                  have hqq : ∃ b off, am = some ⟨b, off, none⟩ ∧ b < wr.heap.size ∧ wr.cell? ⟨b, off + j, none⟩ = some (.int .i64 (O.getD j 0)) := HQ1.out wr hkp j hlj
                  obtain ⟨b, off, rfl, hbl, hcell⟩ := hqq
                  have hmem : O.getD j 0 ∈ O := by simp [List.getD, hlj]
                  obtain ⟨_, i, him, hil⟩ := hoe.out _ hmem
                  have hwf := HWF.out i hil
                  rw [← him] at hwf
                  have hgj := hg4 j (Nat.le_refl _) hlj
                  clear him hmem
                  generalize O.getD j 0 = m at *
                  have how := owner_any hL4 hwf
                  unfold owV at how
                  rw [hgj] at how
                  dsimp only [Option.getD_some] at how
                  have HOW := Lib.hid how; clear how
                  have HL4 := Lib.hid hL4; clear hL4
                  have HG4 := Lib.hid hg4; clear hg4
                  have HGJ := Lib.hid hgj; clear hgj
                  have HKP := Lib.hid hkp; clear hkp hrel
                  have HNX := Lib.hid hnxt; clear hnxt
                  go_wp2_with fail
                  refine HOW.out.mono ?_
                  rintro e w7 ⟨rfl, hb7⟩
                  have hL7 := HL4.out.below hb7
                  have htk := take_both (u := u) hL7 (by omega) (by omega) hwf HGJ.out
                  have HTK := Lib.hid htk; clear htk hL7
                  have HK7 : Hid (KeepL pa mb w6 w7) := Lib.hid (HKP.out.trans (Keep.ofBelow0 hb7))
                  clear hb7 HKP HOW HL4 HGJ
                  go_wp2_with fail
                  refine HTK.out.mono ?_
                  rintro e w8 ⟨rfl, hk8, L5, hL5, hg5⟩
                  have HF : Hid (MRel w6 pa mb O ((k : Int) + 1 + ((j + 1 : Nat) : Int)) (j + 1) w8) := Lib.hid ⟨⟨L5, hL5.mono (by omega), fun i h1 h2 => by rw [hg5 _ (HNX.out i h1 h2)]; exact HG4.out i (by omega) h2⟩, HK7.out.trans hk8⟩
                  clear hk8 hL5 hg5 HTK HK7 HG4 HNX
                  by_cases hu : u < 1
                  · rw [if_pos hu]
                    go_wp2_with fail
                    go_roundw
                    case rel => exact ⟨j + 1, by omega, by go_num, HF.out⟩
                    case measure => simp [intOf]; omega
                  · rw [if_neg hu]
                    go_wp2_with fail
                    go_roundw
                    case rel => exact ⟨j + 1, by omega, by go_num, HF.out⟩
                    case measure => simp [intOf]; omega
                · have HE := Lib.hid (KeepL.bel HBL6.out hrel.kp hpa hmb); clear hrel
                  go_wp2
                  go_ret
                  exact ⟨rfl, HE.out⟩
end Go.Proofs.Ytbfnadpkgiglmaa
