/-
  SchedNumbers, the walk. Conditions: the script's length.
-/
import Derived.Test.YtlmgojnhmdppnaaSc23
import Derived.Deep.AppendLies
namespace Go.Proofs.Ytlmgojnhmdppnaa
open Go.RowKit Go.Maps
set_option linter.unusedVariables false

def NRel (w : World) (M : Int) (ps : Nat) (ao : Option Addr) (co : Nat) (OV : List Int) (Z : ZS) (k : Nat) (wr : World) : Prop :=
  Zd wr (fun k => k < w.heap.size) ps Z ∧ NInv Z OV ∧ Z.spawned ≤ k ∧ OV.length ≤ k ∧ Z.most = M ∧ Keep (fun k => k < w.heap.size) w wr ∧ wr.ownsRow w.heap.size 3 1 (.slice ao OV.length co) OV.length (OV.map (Value.int .i64))

/-- All that was there, one block, and the memory of numbers. -/
def bnums (B b : Nat) (w : World) : Nat → Prop := fun k => (k < B ∨ k = b) ∨ ∃ cs, Blk w k 3 cs

set_option maxRecDepth 1000000 in
set_option maxHeartbeats 4000000 in
theorem numbers_walk (most : Int) (a1 : Option Addr) (c1 len : Nat) (w : World) (hops : IsOps w a1 len) (hlen : len ≤ 5864062014805) :
    Calls Try.prog 10 #[.int .i64 most, .slice a1 len c1] w fun e w' => e = .returned (.bool true) ∧ Below w.heap.size w w' := by
  obtain ⟨i0, hi0, hz0, hz1, hz2⟩ := info_parts info3
  have HOPS := Lib.hid hops; clear hops
  obtain ⟨X, hX⟩ : ∃ X, X = max most 1 := ⟨_, rfl⟩
  obtain ⟨M, hM⟩ : ∃ M, M = min X 8 := ⟨_, rfl⟩
  have hif1 : (if most < 1 then (1 : Int) else most) = X := by rw [hX]; split <;> omega
  have hif2 : (if 8 < X then (8 : Int) else X) = M := by rw [hM]; split <;> omega
  have hM8 : M ≤ 8 := by omega
  have HMX : Hid (min (max most 1) 8 = M) := Lib.hid (by rw [hM, hX])
  clear hX hM
  go_enter Try.func10, Try.ntmps10
  go_wp2_with fail
  refine (new_sched most w (X := fun k => k < w.heap.size) (by omega)).mono ?_
  rintro e w1 ⟨rfl, a1', b1⟩
  have z1 := b1.size
  have K1 : Hid (Keep (fun k => k < w.heap.size) w w1) := Lib.hid (Keep.ofBelow0 b1)
  clear b1
  go_wp2_with fail
  refine (alive_any w1).mono ?_
  rintro e w2 ⟨rfl, b2⟩
  have z2 := b2.size
  have A2 := Lib.hid (a1'.below b2)
  have K2 : Hid (Keep (fun k => k < w.heap.size) w w2) := Lib.hid (K1.out.trans (Keep.ofBelow0 b2))
  clear b2 a1' K1
  go_wp2_with fail
  -- LOOP
  have hown0 : (w2.alloc (Obj.cells #[] 3)).ownsRow w.heap.size 3 1 (.slice (some ⟨w2.heap.size, 0, none⟩) 0 0) 0 [] := World.ownsRow_made w2 #[] 0 (by omega) (by unfold maxLen; omega) rfl
  have hrel0 : NRel w M w.heap.size (some ⟨w2.heap.size, 0, none⟩) 0 [] ⟨M, 0, [], 0, 0⟩ 0 (w2.alloc (Obj.cells #[] 3)) := ⟨by rw [← HMX.out]; exact A2.out.alloc _, NInv.new _, Int.le_refl _, Nat.le_refl _, rfl, K2.out.alloc _, hown0⟩
  have HREL0 := Lib.hid hrel0; clear hrel0 hown0 A2 K2
  clear hif1 hif2
  go_loopw [7, 8, 31] (fun la u i wr => ∃ (k S : Nat) (OV : List Int) (Z : ZS) (ao : Option Addr) (co : Nat), k ≤ len ∧ i = .int .i64 k ∧ la = .int .i64 S ∧ u = .slice ao OV.length co ∧ Z.spawned = S ∧ NRel w M w.heap.size ao co OV Z k wr) (fun _ _ i _ => len - (intOf i).toNat)
  case atStart => exact ⟨0, 0, [], ⟨M, 0, [], 0, 0⟩, _, 0, by omega, rfl, rfl, rfl, rfl, HREL0.out⟩
  case round =>
    clear HREL0
    obtain ⟨k, S, OV, Z, ao, co, hk, rfl, rfl, rfl, hsS, hnr⟩ := hrel
    obtain ⟨hzd, hni, hsk, hok, hmo, hkp, hown⟩ := hnr
    have zr := hkp.size
    have HSS := Lib.hid hsS
    by_cases hlt : k < len
    · obtain ⟨b, off, kd, t, ky, rfl, hb, d0, d1, d2⟩ := (HOPS.out.keep (hkp.toBelow (fun _ hk => hk) (Nat.le_refl _))) k hlt
      have hzB := hzd.alloc (Obj.cells #[.int .i64 kd, .int .i64 t, .int .i64 ky] 85)
      have hkB := hkp.alloc (Obj.cells #[.int .i64 kd, .int .i64 t, .int .i64 ky] 85)
      have hoB := hown.alloc (Obj.cells #[.int .i64 kd, .int .i64 t, .int .i64 ky] 85)
      have hbox := Blk.new wr 85 #[.int .i64 kd, .int .i64 t, .int .i64 ky]
      have hwB : w.heap.size ≤ (wr.alloc (Obj.cells #[.int .i64 kd, .int .i64 t, .int .i64 ky] 85)).heap.size := by simp; omega
      have HZX : Hid (Zd (wr.alloc (Obj.cells #[.int .i64 kd, .int .i64 t, .int .i64 ky] 85)) (bnums w.heap.size wr.heap.size (wr.alloc (Obj.cells #[.int .i64 kd, .int .i64 t, .int .i64 ky] 85))) w.heap.size Z) := Lib.hid (((hzd.less (Y := fun k => k < w.heap.size ∨ k = wr.heap.size) (fun k hk h => by rcases h with h | h; exact h; omega)).alloc _).more (fun k h => h))
      have HZB := Lib.hid hzB; clear hzB
      have HKB := Lib.hid hkB; clear hkB
      have HOB := Lib.hid hoB; clear hoB
      have HNI := Lib.hid hni; clear hni
      have HOK := Lib.hid hzd.ok
      have HMO := Lib.hid hmo; clear hmo
      have HWB := Lib.hid hwB; clear hwB
      clear hzd hkp hown
      by_cases h1 : kd = 1
      · subst h1
        have hsp := spawn_any HZB.out.nums (nums_new HWB.out) (by have := HSS.out; omega)
        have hnn := HNI.out.spawn HOK.out
        by_cases hl : (Z.ths.length : Int) < Z.most
        · have e1 : Z.spawnNo = (S : Int) + 1 := by unfold ZS.spawnNo; rw [if_pos hl, hsS]
          have e2 : Z.spawnErr = 0 := by unfold ZS.spawnErr; rw [if_pos hl]
          have e3 : Z.spawn.spawned = ((S + 1 : Nat) : Int) := by unfold ZS.spawn; rw [if_pos hl]; dsimp only; omega
          have e4 : Z.spawn.most = Z.most := by unfold ZS.spawn; rw [if_pos hl]
          rw [e1, e2] at hsp
          generalize Z.spawn = Z1 at hsp hnn e3 e4
          have HSP := Lib.hid hsp; clear hsp
          have HNN := Lib.hid hnn; clear hnn
          have HSPE := Lib.hid e3; clear e3
          have HM1 : Hid (Z1.most = M) := Lib.hid (by rw [e4, HMO.out])
          clear e1 e2 e4 hl
          have hSk : S ≤ k := by omega
          have hmx : (if (S : Int) < (S : Int) + 1 then (S : Int) + 1 else (S : Int)) = (S : Int) + 1 := if_pos (by omega)
          clear hsS hsk
          go_wp2_with fail
          refine HSP.out.mono ?_
          rintro e w5 ⟨rfl, y5, k5⟩
          have HR : Hid (NRel w M w.heap.size ao co OV Z1 (k + 1) w5) := Lib.hid ⟨y5.old, HNN.out, by have := HSPE.out; omega, by omega, HM1.out, HKB.out.trans k5.old, own_nums HOB.out k5⟩
          have zz5 := k5.size
          clear y5 k5 HSP HZB HKB HOB HNI HOK HMO
          obtain ⟨hzd, hni, hsp', hol', hmo', hkp', hown'⟩ := HR.out
          have hio : IntsAt w5 ao OV := by
            obtain ⟨ra, rcap, hre, hri⟩ := own_ints hown'
            injection hre with hre1 _ hre2
            subst hre1; exact hri
          have hcf : (cntS Z1.ths (S + 1) : Int) ≤ M := by
            have := cntS_few Z1.ths (S + 1)
            have := hzd.ok.few
            omega
          have HCL : Hid (∀ m, (cntS Z1.ths m : Int) ≤ 8) := Lib.hid (fun m => by have := cntS_few Z1.ths m; have := hzd.ok.eight; omega)
          have HCS : Hid (∀ m, cntS Z1.ths (m + 1) = cntS Z1.ths m + if 0 < stOf Z1.ths ((m : Int) + 1) then 1 else 0) := Lib.hid (fun m => rfl)
          have HST : Hid (∀ t wq, Below w5.heap.size w5 wq → Calls Try.prog 45 #[.pointer (some ⟨w.heap.size, 0, none⟩), .int .i64 t] wq fun e w' => e = .returned (.int .i64 (stOf Z1.ths t)) ∧ Below wq.heap.size wq w') := Lib.hid (fun t wq hb => state_any (hzd.below hb) t)
          have HSE : Hid (∀ j, j < OV.length → stOf Z1.ths (OV.getD j 0) = 3 ∨ stOf Z1.ths (OV.getD j 0) = 0) := Lib.hid (fun j hj => by
            have := hni.seen (OV.getD j 0) (by rw [List.getD_eq_getElem?_getD, List.getElem?_eq_getElem hj]; exact List.getElem_mem _)
            exact this.2.2)
          have HIO := Lib.hid hio; clear hio
          have HBK : Hid (∀ wq, Below w5.heap.size w5 wq → NRel w M w.heap.size ao co OV Z1 (k + 1) wq) := Lib.hid (fun wq hb => ⟨hzd.below hb, hni, hsp', hol', hmo', hkp'.trans (Keep.ofBelow0 hb), own_below hown' hb⟩)
          have hz5 : w.heap.size ≤ w5.heap.size := hkp'.size
          clear hzd hni hsp' hmo' hkp' hown'
          go_wp2_with fail
          go_loopw [13, 14] (fun c i wq => ∃ m : Nat, m ≤ (S + 1) ∧ i = .int .i64 ((m : Int) + 1) ∧ c = .int .i64 (cntS Z1.ths m) ∧ Below w5.heap.size w5 wq) (fun _ i _ => (S + 1) + 2 - (intOf i).toNat)
          case atStart => exact ⟨0, by omega, rfl, rfl, Below.refl _ _⟩
          case round =>
            obtain ⟨m, hm, rfl, rfl, hbq⟩ := hrel
            have zq := hbq.size
            have hcl := HCL.out m
            have HBQ := Lib.hid hbq; clear hbq
            by_cases hmS : m < (S + 1)
            · have hcs := HCS.out m
              have hst := HST.out ((m : Int) + 1) _ HBQ.out
              generalize stOf Z1.ths ((m : Int) + 1) = x at hcs hst
              generalize cntS Z1.ths m = c at hcl hcs ⊢
              have HS1 := Lib.hid hst; clear hst
              have hle : (m : Int) + 1 ≤ ((S : Int) + 1) := by omega
              by_cases hx : 0 < x
              · rw [if_pos hx] at hcs
                have HC := Lib.hid hcs; clear hcs
                go_wp2_with fail
                refine HS1.out.mono ?_
                rintro e w6 ⟨rfl, b6⟩
                have HB6 := Lib.hid (HBQ.out.trans (b6.mono zq)); clear b6
                go_wp2_with fail
                go_roundw
                case rel => exact ⟨m + 1, by omega, by go_num, by rw [HC.out]; go_num, HB6.out⟩
                case measure => simp [intOf]; omega
              · rw [if_neg hx] at hcs
                have HC := Lib.hid hcs; clear hcs
                go_wp2_with fail
                refine HS1.out.mono ?_
                rintro e w6 ⟨rfl, b6⟩
                have HB6 := Lib.hid (HBQ.out.trans (b6.mono zq)); clear b6
                go_wp2_with fail
                go_roundw
                case rel => exact ⟨m + 1, by omega, by go_num, by rw [HC.out]; rfl, HB6.out⟩
                case measure => simp [intOf]; omega
            · have hmm : m = (S + 1) := by omega
              have hgt : ¬ M < (cntS Z1.ths m : Int) := by rw [hmm]; omega
              have hle : ¬ (m : Int) + 1 ≤ ((S : Int) + 1) := by omega
              generalize cntS Z1.ths m = c at hcl hgt ⊢
              clear hmm hcf
              go_wp2_with fail
              go_loopw [122] (fun i wq => ∃ j : Nat, j ≤ OV.length ∧ i = .int .i64 j ∧ Below w5.heap.size w5 wq) (fun i _ => OV.length - (intOf i).toNat)
              case atStart => exact ⟨0, by omega, rfl, HBQ.out⟩
              case round =>
                clear HBQ
                obtain ⟨j, hj, rfl, hbv⟩ := hrel
                have zv := hbv.size
                have HBV := Lib.hid hbv; clear hbv
                by_cases hjl : j < OV.length
                · have hse := HSE.out j hjl
                  obtain ⟨bo, oo, hao, hbo, hco⟩ := (HIO.out.below HBV.out) j hjl
                  generalize OV.getD j 0 = tt at hco hse
                  have hst := HST.out tt _ HBV.out
                  have HST2 : Hid (∀ wq, Below w5.heap.size w5 wq → Calls Try.prog 45 #[.pointer (some ⟨w.heap.size, 0, none⟩), .int .i64 tt] wq fun e w' => e = .returned (.int .i64 (stOf Z1.ths tt)) ∧ Below wq.heap.size wq w') := Lib.hid (fun wq hb => HST.out tt wq hb)
                  rcases hse with h3 | h0
                  · rw [h3] at hst
                    have HS1 := Lib.hid hst; clear hst h3
                    have HAO := Lib.hid hao; clear hao
                    rw [HAO.out] at *
                    go_wp2_with fail
                    refine HS1.out.mono ?_
                    rintro e w6 ⟨rfl, b6⟩
                    have HB6 := Lib.hid (HBV.out.trans (b6.mono zv)); clear b6
                    go_wp2_with fail
                    go_roundw
                    case rel => exact ⟨j + 1, by omega, by go_num, HB6.out⟩
                    case measure => simp [intOf]; omega
                  · rw [h0] at hst HST2
                    have HS1 := Lib.hid hst; clear hst h0
                    have HAO := Lib.hid hao; clear hao
                    rw [HAO.out] at *
                    go_wp2_with fail
                    refine HS1.out.mono ?_
                    rintro e w6 ⟨rfl, b6⟩
                    have HB6 := Lib.hid (HBV.out.trans (b6.mono zv)); clear b6
                    have HS2 := Lib.hid (HST2.out w6 HB6.out)
                    have zv6 := HB6.out.size
                    go_wp2_with fail
                    refine HS2.out.mono ?_
                    rintro e w7 ⟨rfl, b7⟩
                    have HB7 := Lib.hid (HB6.out.trans (b7.mono zv6)); clear b7
                    go_wp2_with fail
                    go_roundw
                    case rel => exact ⟨j + 1, by omega, by go_num, HB7.out⟩
                    case measure => simp [intOf]; omega
                · obtain rfl : j = OV.length := by omega
                  go_wp2_with fail
                  go_roundw
                  case rel => exact ⟨k + 1, (S + 1), OV, Z1, ao, co, by omega, by go_num, by go_num, rfl, HSPE.out, HBK.out _ HBV.out⟩
                  case measure => simp [intOf]; omega
        · have e1 : Z.spawnNo = 0 := by unfold ZS.spawnNo; rw [if_neg hl]
          have e2 : Z.spawnErr = 3 := by unfold ZS.spawnErr; rw [if_neg hl]
          have e3 : Z.spawn = Z := by unfold ZS.spawn; rw [if_neg hl]
          rw [e1, e2, e3] at hsp
          have HSP := Lib.hid hsp; clear hsp hnn
          have HSPE := Lib.hid hsS
          clear e1 e2 e3 hl
          have hSk : S ≤ k := by omega
          have hmx : (if (S : Int) < 0 then (0 : Int) else (S : Int)) = (S : Int) := if_neg (by omega)
          clear hsS hsk
          go_wp2_with fail
          refine HSP.out.mono ?_
          rintro e w5 ⟨rfl, y5, k5⟩
          have HR : Hid (NRel w M w.heap.size ao co OV Z (k + 1) w5) := Lib.hid ⟨y5.old, HNI.out, by have := HSPE.out; omega, by omega, HMO.out, HKB.out.trans k5.old, own_nums HOB.out k5⟩
          have zz5 := k5.size
          clear y5 k5 HSP HZB HKB HOB HNI HOK HMO
          obtain ⟨hzd, hni, hsp', hol', hmo', hkp', hown'⟩ := HR.out
          have hio : IntsAt w5 ao OV := by
            obtain ⟨ra, rcap, hre, hri⟩ := own_ints hown'
            injection hre with hre1 _ hre2
            subst hre1; exact hri
          have hcf : (cntS Z.ths S : Int) ≤ M := by
            have := cntS_few Z.ths S
            have := hzd.ok.few
            omega
          have HCL : Hid (∀ m, (cntS Z.ths m : Int) ≤ 8) := Lib.hid (fun m => by have := cntS_few Z.ths m; have := hzd.ok.eight; omega)
          have HCS : Hid (∀ m, cntS Z.ths (m + 1) = cntS Z.ths m + if 0 < stOf Z.ths ((m : Int) + 1) then 1 else 0) := Lib.hid (fun m => rfl)
          have HST : Hid (∀ t wq, Below w5.heap.size w5 wq → Calls Try.prog 45 #[.pointer (some ⟨w.heap.size, 0, none⟩), .int .i64 t] wq fun e w' => e = .returned (.int .i64 (stOf Z.ths t)) ∧ Below wq.heap.size wq w') := Lib.hid (fun t wq hb => state_any (hzd.below hb) t)
          have HSE : Hid (∀ j, j < OV.length → stOf Z.ths (OV.getD j 0) = 3 ∨ stOf Z.ths (OV.getD j 0) = 0) := Lib.hid (fun j hj => by
            have := hni.seen (OV.getD j 0) (by rw [List.getD_eq_getElem?_getD, List.getElem?_eq_getElem hj]; exact List.getElem_mem _)
            exact this.2.2)
          have HIO := Lib.hid hio; clear hio
          have HBK : Hid (∀ wq, Below w5.heap.size w5 wq → NRel w M w.heap.size ao co OV Z (k + 1) wq) := Lib.hid (fun wq hb => ⟨hzd.below hb, hni, hsp', hol', hmo', hkp'.trans (Keep.ofBelow0 hb), own_below hown' hb⟩)
          have hz5 : w.heap.size ≤ w5.heap.size := hkp'.size
          clear hzd hni hsp' hmo' hkp' hown'
          go_wp2_with fail
          go_loopw [13, 14] (fun c i wq => ∃ m : Nat, m ≤ S ∧ i = .int .i64 ((m : Int) + 1) ∧ c = .int .i64 (cntS Z.ths m) ∧ Below w5.heap.size w5 wq) (fun _ i _ => S + 2 - (intOf i).toNat)
          case atStart => exact ⟨0, by omega, rfl, rfl, Below.refl _ _⟩
          case round =>
            obtain ⟨m, hm, rfl, rfl, hbq⟩ := hrel
            have zq := hbq.size
            have hcl := HCL.out m
            have HBQ := Lib.hid hbq; clear hbq
            by_cases hmS : m < S
            · have hcs := HCS.out m
              have hst := HST.out ((m : Int) + 1) _ HBQ.out
              generalize stOf Z.ths ((m : Int) + 1) = x at hcs hst
              generalize cntS Z.ths m = c at hcl hcs ⊢
              have HS1 := Lib.hid hst; clear hst
              have hle : (m : Int) + 1 ≤ (S : Int) := by omega
              by_cases hx : 0 < x
              · rw [if_pos hx] at hcs
                have HC := Lib.hid hcs; clear hcs
                go_wp2_with fail
                refine HS1.out.mono ?_
                rintro e w6 ⟨rfl, b6⟩
                have HB6 := Lib.hid (HBQ.out.trans (b6.mono zq)); clear b6
                go_wp2_with fail
                go_roundw
                case rel => exact ⟨m + 1, by omega, by go_num, by rw [HC.out]; go_num, HB6.out⟩
                case measure => simp [intOf]; omega
              · rw [if_neg hx] at hcs
                have HC := Lib.hid hcs; clear hcs
                go_wp2_with fail
                refine HS1.out.mono ?_
                rintro e w6 ⟨rfl, b6⟩
                have HB6 := Lib.hid (HBQ.out.trans (b6.mono zq)); clear b6
                go_wp2_with fail
                go_roundw
                case rel => exact ⟨m + 1, by omega, by go_num, by rw [HC.out]; rfl, HB6.out⟩
                case measure => simp [intOf]; omega
            · have hmm : m = S := by omega
              have hgt : ¬ M < (cntS Z.ths m : Int) := by rw [hmm]; omega
              have hle : ¬ (m : Int) + 1 ≤ (S : Int) := by omega
              generalize cntS Z.ths m = c at hcl hgt ⊢
              clear hmm hcf
              go_wp2_with fail
              go_loopw [122] (fun i wq => ∃ j : Nat, j ≤ OV.length ∧ i = .int .i64 j ∧ Below w5.heap.size w5 wq) (fun i _ => OV.length - (intOf i).toNat)
              case atStart => exact ⟨0, by omega, rfl, HBQ.out⟩
              case round =>
                clear HBQ
                obtain ⟨j, hj, rfl, hbv⟩ := hrel
                have zv := hbv.size
                have HBV := Lib.hid hbv; clear hbv
                by_cases hjl : j < OV.length
                · have hse := HSE.out j hjl
                  obtain ⟨bo, oo, hao, hbo, hco⟩ := (HIO.out.below HBV.out) j hjl
                  generalize OV.getD j 0 = tt at hco hse
                  have hst := HST.out tt _ HBV.out
                  have HST2 : Hid (∀ wq, Below w5.heap.size w5 wq → Calls Try.prog 45 #[.pointer (some ⟨w.heap.size, 0, none⟩), .int .i64 tt] wq fun e w' => e = .returned (.int .i64 (stOf Z.ths tt)) ∧ Below wq.heap.size wq w') := Lib.hid (fun wq hb => HST.out tt wq hb)
                  rcases hse with h3 | h0
                  · rw [h3] at hst
                    have HS1 := Lib.hid hst; clear hst h3
                    have HAO := Lib.hid hao; clear hao
                    rw [HAO.out] at *
                    go_wp2_with fail
                    refine HS1.out.mono ?_
                    rintro e w6 ⟨rfl, b6⟩
                    have HB6 := Lib.hid (HBV.out.trans (b6.mono zv)); clear b6
                    go_wp2_with fail
                    go_roundw
                    case rel => exact ⟨j + 1, by omega, by go_num, HB6.out⟩
                    case measure => simp [intOf]; omega
                  · rw [h0] at hst HST2
                    have HS1 := Lib.hid hst; clear hst h0
                    have HAO := Lib.hid hao; clear hao
                    rw [HAO.out] at *
                    go_wp2_with fail
                    refine HS1.out.mono ?_
                    rintro e w6 ⟨rfl, b6⟩
                    have HB6 := Lib.hid (HBV.out.trans (b6.mono zv)); clear b6
                    have HS2 := Lib.hid (HST2.out w6 HB6.out)
                    have zv6 := HB6.out.size
                    go_wp2_with fail
                    refine HS2.out.mono ?_
                    rintro e w7 ⟨rfl, b7⟩
                    have HB7 := Lib.hid (HB6.out.trans (b7.mono zv6)); clear b7
                    go_wp2_with fail
                    go_roundw
                    case rel => exact ⟨j + 1, by omega, by go_num, HB7.out⟩
                    case measure => simp [intOf]; omega
                · obtain rfl : j = OV.length := by omega
                  go_wp2_with fail
                  go_roundw
                  case rel => exact ⟨k + 1, S, OV, Z, ao, co, by omega, by go_num, by go_num, rfl, HSPE.out, HBK.out _ HBV.out⟩
                  case measure => simp [intOf]; omega
      · have q1 : (kd == 1) = false := by simpa using h1
        by_cases h3 : kd = 3
        · subst h3
          have hzX : Zd (wr.alloc (Obj.cells #[.int .i64 3, .int .i64 t, .int .i64 ky] 85)) (bnums w.heap.size wr.heap.size (wr.alloc (Obj.cells #[.int .i64 3, .int .i64 t, .int .i64 ky] 85))) w.heap.size Z := HZX.out
          have hSk : S ≤ k := by omega
          have hst := stop_any hzX t
          by_cases he : Z.inErr 1 t = 0
          · have hnn := HNI.out.stop1 HOK.out he
            rw [he] at hst
            have e3 : (Z.stop t).spawned = (S : Int) := by unfold ZS.stop; split <;> exact hsS
            have e4 : (Z.stop t).most = Z.most := by unfold ZS.stop; split <;> rfl
            generalize Z.stop t = Z1 at hst hnn e3 e4
            have HSP := Lib.hid hst; clear hst
            have HNN := Lib.hid hnn; clear hnn
            have HSPE := Lib.hid e3; clear e3
            have HM1 : Hid (Z1.most = M) := Lib.hid (by rw [e4, HMO.out])
            clear e4 he hsS hsk hzX
            go_wp2_with fail
            refine HSP.out.mono ?_
            rintro e w5 ⟨rfl, y5, k5⟩
            have zz5 := k5.size
            simp only [World.size_alloc] at zz5
            have hbx5 := hbox.keep k5 (.inl (.inr rfl))
            obtain ⟨f0, f1, f2⟩ := hbx5.three
            have O5 := Lib.hid (own_keep HOB.out k5 (fun g cs hb => .inr ⟨cs, hb⟩))
            have K5 : Hid (Keep (fun k => k < w.heap.size) w w5) := Lib.hid (HKB.out.trans (k5.less (fun k h => .inl (.inl h))))
            have Y5 : Hid (Zd w5 (fun k => k < w.heap.size) w.heap.size Z1) := Lib.hid (y5.less (fun k _ h => .inl (.inl h)))
            have hbl5 : wr.heap.size < w5.heap.size := by omega
            clear y5 k5 hbx5 HSP HZB HKB HOB d0 d1 d2 hbox
            go_wp2_with (at_builtin; refine wpList_append_own _ rfl _ _ 30 rfl w.heap.size 3 i0 (.int .i64 0) 1 8 Try.underlying30 hi0 hz0 hz1 hz2 rfl (by decide) _ _ _ rfl (O5.out.alloc _) ⟨w5.heap.size, 0, none⟩ 1 1 [.int .i64 t] rfl rfl (cell_one_new w5 (.int .i64 t) 3) (ints_oneCell .i64 [t]) (by unfold maxLen; omega) (by omega) (by simp; omega) ?_)
            intro v' w6 hown' hgrow _
            have hown2 : w6.ownsRow w.heap.size 3 1 v' (OV ++ [t]).length ((OV ++ [t]).map (Value.int .i64)) := by simpa using hown'
            obtain ⟨ao2, co2, rfl, _⟩ := own_ints hown2
            have hgk : Keep (fun k => k < w.heap.size) (w5.alloc (Obj.cells #[Value.int .i64 t] 3)) w6 := Keep.ofGrown hgrow (fun g hg hx => by have := (O5.out.lt g hg).1; omega)
            have hzn : Zd w6 (fun k => k < w.heap.size) w.heap.size Z1 := (Y5.out.alloc _).grownInts hgrow (O5.out.alloc _)
            have HR : Hid (NRel w M w.heap.size ao2 co2 (OV ++ [t]) Z1 (k + 1) w6) := Lib.hid ⟨hzn, HNN.out, by have := HSPE.out; omega, by simp; omega, HM1.out, (K5.out.alloc _).trans hgk, hown2⟩
            clear hgk hzn hown2 hown' hgrow Y5 K5 O5
            generalize OV ++ [t] = OV2 at HR ⊢
            obtain ⟨hzd, hni, hsp', hol', hmo', hkp', hown'⟩ := HR.out
            have hio : IntsAt w6 ao2 OV2 := by
              obtain ⟨ra, rcap, hre, hri⟩ := own_ints hown'
              injection hre with hre1 _ hre2
              subst hre1; exact hri
            have hcf : (cntS Z1.ths S : Int) ≤ M := by
              have := cntS_few Z1.ths S
              have := hzd.ok.few
              omega
            have HCL : Hid (∀ m, (cntS Z1.ths m : Int) ≤ 8) := Lib.hid (fun m => by have := cntS_few Z1.ths m; have := hzd.ok.eight; omega)
            have HCS : Hid (∀ m, cntS Z1.ths (m + 1) = cntS Z1.ths m + if 0 < stOf Z1.ths ((m : Int) + 1) then 1 else 0) := Lib.hid (fun m => rfl)
            have HST : Hid (∀ t wq, Below w6.heap.size w6 wq → Calls Try.prog 45 #[.pointer (some ⟨w.heap.size, 0, none⟩), .int .i64 t] wq fun e w' => e = .returned (.int .i64 (stOf Z1.ths t)) ∧ Below wq.heap.size wq w') := Lib.hid (fun t wq hb => state_any (hzd.below hb) t)
            have HSE : Hid (∀ j, j < OV2.length → stOf Z1.ths (OV2.getD j 0) = 3 ∨ stOf Z1.ths (OV2.getD j 0) = 0) := Lib.hid (fun j hj => by
              have := hni.seen (OV2.getD j 0) (by rw [List.getD_eq_getElem?_getD, List.getElem?_eq_getElem hj]; exact List.getElem_mem _)
              exact this.2.2)
            have HIO := Lib.hid hio; clear hio
            have HBK : Hid (∀ wq, Below w6.heap.size w6 wq → NRel w M w.heap.size ao2 co2 OV2 Z1 (k + 1) wq) := Lib.hid (fun wq hb => ⟨hzd.below hb, hni, hsp', hol', hmo', hkp'.trans (Keep.ofBelow0 hb), own_below hown' hb⟩)
            have hz5 : w.heap.size ≤ w6.heap.size := hkp'.size
            clear hzd hni hsp' hmo' hkp' hown'
            go_wp2_with fail
            go_loopw [13, 14] (fun c i wq => ∃ m : Nat, m ≤ S ∧ i = .int .i64 ((m : Int) + 1) ∧ c = .int .i64 (cntS Z1.ths m) ∧ Below w6.heap.size w6 wq) (fun _ i _ => S + 2 - (intOf i).toNat)
            case atStart => exact ⟨0, by omega, rfl, rfl, Below.refl _ _⟩
            case round =>
              obtain ⟨m, hm, rfl, rfl, hbq⟩ := hrel
              have zq := hbq.size
              have hcl := HCL.out m
              have HBQ := Lib.hid hbq; clear hbq
              by_cases hmS : m < S
              · have hcs := HCS.out m
                have hst := HST.out ((m : Int) + 1) _ HBQ.out
                generalize stOf Z1.ths ((m : Int) + 1) = x at hcs hst
                generalize cntS Z1.ths m = c at hcl hcs ⊢
                have HS1 := Lib.hid hst; clear hst
                have hle : (m : Int) + 1 ≤ (S : Int) := by omega
                by_cases hx : 0 < x
                · rw [if_pos hx] at hcs
                  have HC := Lib.hid hcs; clear hcs
                  go_wp2_with fail
                  refine HS1.out.mono ?_
                  rintro e w6 ⟨rfl, b6⟩
                  have HB6 := Lib.hid (HBQ.out.trans (b6.mono zq)); clear b6
                  go_wp2_with fail
                  go_roundw
                  case rel => exact ⟨m + 1, by omega, by go_num, by rw [HC.out]; go_num, HB6.out⟩
                  case measure => simp [intOf]; omega
                · rw [if_neg hx] at hcs
                  have HC := Lib.hid hcs; clear hcs
                  go_wp2_with fail
                  refine HS1.out.mono ?_
                  rintro e w6 ⟨rfl, b6⟩
                  have HB6 := Lib.hid (HBQ.out.trans (b6.mono zq)); clear b6
                  go_wp2_with fail
                  go_roundw
                  case rel => exact ⟨m + 1, by omega, by go_num, by rw [HC.out]; rfl, HB6.out⟩
                  case measure => simp [intOf]; omega
              · have hmm : m = S := by omega
                have hgt : ¬ M < (cntS Z1.ths m : Int) := by rw [hmm]; omega
                have hle : ¬ (m : Int) + 1 ≤ (S : Int) := by omega
                generalize cntS Z1.ths m = c at hcl hgt ⊢
                clear hmm hcf
                go_wp2_with fail
                go_loopw [122] (fun i wq => ∃ j : Nat, j ≤ OV2.length ∧ i = .int .i64 j ∧ Below w6.heap.size w6 wq) (fun i _ => OV2.length - (intOf i).toNat)
                case atStart => exact ⟨0, by omega, rfl, HBQ.out⟩
                case round =>
                  clear HBQ
                  obtain ⟨j, hj, rfl, hbv⟩ := hrel
                  have zv := hbv.size
                  have HBV := Lib.hid hbv; clear hbv
                  by_cases hjl : j < OV2.length
                  · have hse := HSE.out j hjl
                    obtain ⟨bo, oo, hao, hbo, hco⟩ := (HIO.out.below HBV.out) j hjl
                    generalize OV2.getD j 0 = tt at hco hse
                    have hst := HST.out tt _ HBV.out
                    have HST2 : Hid (∀ wq, Below w6.heap.size w6 wq → Calls Try.prog 45 #[.pointer (some ⟨w.heap.size, 0, none⟩), .int .i64 tt] wq fun e w' => e = .returned (.int .i64 (stOf Z1.ths tt)) ∧ Below wq.heap.size wq w') := Lib.hid (fun wq hb => HST.out tt wq hb)
                    rcases hse with h3 | h0
                    · rw [h3] at hst
                      have HS1 := Lib.hid hst; clear hst h3
                      have HAO := Lib.hid hao; clear hao
                      rw [HAO.out] at *
                      go_wp2_with fail
                      refine HS1.out.mono ?_
                      rintro e w6 ⟨rfl, b6⟩
                      have HB6 := Lib.hid (HBV.out.trans (b6.mono zv)); clear b6
                      go_wp2_with fail
                      go_roundw
                      case rel => exact ⟨j + 1, by omega, by go_num, HB6.out⟩
                      case measure => simp [intOf]; omega
                    · rw [h0] at hst HST2
                      have HS1 := Lib.hid hst; clear hst h0
                      have HAO := Lib.hid hao; clear hao
                      rw [HAO.out] at *
                      go_wp2_with fail
                      refine HS1.out.mono ?_
                      rintro e w6 ⟨rfl, b6⟩
                      have HB6 := Lib.hid (HBV.out.trans (b6.mono zv)); clear b6
                      have HS2 := Lib.hid (HST2.out w6 HB6.out)
                      have zv6 := HB6.out.size
                      go_wp2_with fail
                      refine HS2.out.mono ?_
                      rintro e w7 ⟨rfl, b7⟩
                      have HB7 := Lib.hid (HB6.out.trans (b7.mono zv6)); clear b7
                      go_wp2_with fail
                      go_roundw
                      case rel => exact ⟨j + 1, by omega, by go_num, HB7.out⟩
                      case measure => simp [intOf]; omega
                  · obtain rfl : j = OV2.length := by omega
                    go_wp2_with fail
                    go_roundw
                    case rel => exact ⟨k + 1, S, OV2, Z1, ao2, co2, by omega, by go_num, by go_num, rfl, HSPE.out, HBK.out _ HBV.out⟩
                    case measure => simp [intOf]; omega
          · have hnn := HNI.out.stop0 he
            have e3 : Z.stop t = Z := by unfold ZS.stop; rw [if_neg he]
            rw [e3] at hst
            clear hnn e3
            obtain ⟨x, hx⟩ : ∃ x, Z.inErr 1 t = x := ⟨_, rfl⟩
            rw [hx] at hst he
            have hb0 : (x == 0) = false := by simpa using he
            have HSP := Lib.hid hst; clear hst
            have HSPE := Lib.hid hsS
            clear hx he hsS hsk hzX
            go_wp2_with fail
            refine HSP.out.mono ?_
            rintro e w5 ⟨rfl, y5, k5⟩
            have zz5 := k5.size
            simp only [World.size_alloc] at zz5
            have hbx5 := hbox.keep k5 (.inl (.inr rfl))
            obtain ⟨f0, f1, f2⟩ := hbx5.three
            have O5 := Lib.hid (own_keep HOB.out k5 (fun g cs hb => .inr ⟨cs, hb⟩))
            have K5 : Hid (Keep (fun k => k < w.heap.size) w w5) := Lib.hid (HKB.out.trans (k5.less (fun k h => .inl (.inl h))))
            have Y5 : Hid (Zd w5 (fun k => k < w.heap.size) w.heap.size Z) := Lib.hid (y5.less (fun k _ h => .inl (.inl h)))
            have hbl5 : wr.heap.size < w5.heap.size := by omega
            clear y5 k5 hbx5 HSP HZB HKB HOB d0 d1 d2 hbox
            have HR : Hid (NRel w M w.heap.size ao co OV Z (k + 1) w5) := Lib.hid ⟨Y5.out, HNI.out, by have := HSPE.out; omega, by omega, HMO.out, K5.out, O5.out⟩
            clear Y5 K5 O5
            obtain ⟨hzd, hni, hsp', hol', hmo', hkp', hown'⟩ := HR.out
            have hio : IntsAt w5 ao OV := by
              obtain ⟨ra, rcap, hre, hri⟩ := own_ints hown'
              injection hre with hre1 _ hre2
              subst hre1; exact hri
            have hcf : (cntS Z.ths S : Int) ≤ M := by
              have := cntS_few Z.ths S
              have := hzd.ok.few
              omega
            have HCL : Hid (∀ m, (cntS Z.ths m : Int) ≤ 8) := Lib.hid (fun m => by have := cntS_few Z.ths m; have := hzd.ok.eight; omega)
            have HCS : Hid (∀ m, cntS Z.ths (m + 1) = cntS Z.ths m + if 0 < stOf Z.ths ((m : Int) + 1) then 1 else 0) := Lib.hid (fun m => rfl)
            have HST : Hid (∀ t wq, Below w5.heap.size w5 wq → Calls Try.prog 45 #[.pointer (some ⟨w.heap.size, 0, none⟩), .int .i64 t] wq fun e w' => e = .returned (.int .i64 (stOf Z.ths t)) ∧ Below wq.heap.size wq w') := Lib.hid (fun t wq hb => state_any (hzd.below hb) t)
            have HSE : Hid (∀ j, j < OV.length → stOf Z.ths (OV.getD j 0) = 3 ∨ stOf Z.ths (OV.getD j 0) = 0) := Lib.hid (fun j hj => by
              have := hni.seen (OV.getD j 0) (by rw [List.getD_eq_getElem?_getD, List.getElem?_eq_getElem hj]; exact List.getElem_mem _)
              exact this.2.2)
            have HIO := Lib.hid hio; clear hio
            have HBK : Hid (∀ wq, Below w5.heap.size w5 wq → NRel w M w.heap.size ao co OV Z (k + 1) wq) := Lib.hid (fun wq hb => ⟨hzd.below hb, hni, hsp', hol', hmo', hkp'.trans (Keep.ofBelow0 hb), own_below hown' hb⟩)
            have hz5 : w.heap.size ≤ w5.heap.size := hkp'.size
            clear hzd hni hsp' hmo' hkp' hown'
            go_wp2_with fail
            go_loopw [13, 14] (fun c i wq => ∃ m : Nat, m ≤ S ∧ i = .int .i64 ((m : Int) + 1) ∧ c = .int .i64 (cntS Z.ths m) ∧ Below w5.heap.size w5 wq) (fun _ i _ => S + 2 - (intOf i).toNat)
            case atStart => exact ⟨0, by omega, rfl, rfl, Below.refl _ _⟩
            case round =>
              obtain ⟨m, hm, rfl, rfl, hbq⟩ := hrel
              have zq := hbq.size
              have hcl := HCL.out m
              have HBQ := Lib.hid hbq; clear hbq
              by_cases hmS : m < S
              · have hcs := HCS.out m
                have hst := HST.out ((m : Int) + 1) _ HBQ.out
                generalize stOf Z.ths ((m : Int) + 1) = x at hcs hst
                generalize cntS Z.ths m = c at hcl hcs ⊢
                have HS1 := Lib.hid hst; clear hst
                have hle : (m : Int) + 1 ≤ (S : Int) := by omega
                by_cases hx : 0 < x
                · rw [if_pos hx] at hcs
                  have HC := Lib.hid hcs; clear hcs
                  go_wp2_with fail
                  refine HS1.out.mono ?_
                  rintro e w6 ⟨rfl, b6⟩
                  have HB6 := Lib.hid (HBQ.out.trans (b6.mono zq)); clear b6
                  go_wp2_with fail
                  go_roundw
                  case rel => exact ⟨m + 1, by omega, by go_num, by rw [HC.out]; go_num, HB6.out⟩
                  case measure => simp [intOf]; omega
                · rw [if_neg hx] at hcs
                  have HC := Lib.hid hcs; clear hcs
                  go_wp2_with fail
                  refine HS1.out.mono ?_
                  rintro e w6 ⟨rfl, b6⟩
                  have HB6 := Lib.hid (HBQ.out.trans (b6.mono zq)); clear b6
                  go_wp2_with fail
                  go_roundw
                  case rel => exact ⟨m + 1, by omega, by go_num, by rw [HC.out]; rfl, HB6.out⟩
                  case measure => simp [intOf]; omega
              · have hmm : m = S := by omega
                have hgt : ¬ M < (cntS Z.ths m : Int) := by rw [hmm]; omega
                have hle : ¬ (m : Int) + 1 ≤ (S : Int) := by omega
                generalize cntS Z.ths m = c at hcl hgt ⊢
                clear hmm hcf
                go_wp2_with fail
                go_loopw [122] (fun i wq => ∃ j : Nat, j ≤ OV.length ∧ i = .int .i64 j ∧ Below w5.heap.size w5 wq) (fun i _ => OV.length - (intOf i).toNat)
                case atStart => exact ⟨0, by omega, rfl, HBQ.out⟩
                case round =>
                  clear HBQ
                  obtain ⟨j, hj, rfl, hbv⟩ := hrel
                  have zv := hbv.size
                  have HBV := Lib.hid hbv; clear hbv
                  by_cases hjl : j < OV.length
                  · have hse := HSE.out j hjl
                    obtain ⟨bo, oo, hao, hbo, hco⟩ := (HIO.out.below HBV.out) j hjl
                    generalize OV.getD j 0 = tt at hco hse
                    have hst := HST.out tt _ HBV.out
                    have HST2 : Hid (∀ wq, Below w5.heap.size w5 wq → Calls Try.prog 45 #[.pointer (some ⟨w.heap.size, 0, none⟩), .int .i64 tt] wq fun e w' => e = .returned (.int .i64 (stOf Z.ths tt)) ∧ Below wq.heap.size wq w') := Lib.hid (fun wq hb => HST.out tt wq hb)
                    rcases hse with h3 | h0
                    · rw [h3] at hst
                      have HS1 := Lib.hid hst; clear hst h3
                      have HAO := Lib.hid hao; clear hao
                      rw [HAO.out] at *
                      go_wp2_with fail
                      refine HS1.out.mono ?_
                      rintro e w6 ⟨rfl, b6⟩
                      have HB6 := Lib.hid (HBV.out.trans (b6.mono zv)); clear b6
                      go_wp2_with fail
                      go_roundw
                      case rel => exact ⟨j + 1, by omega, by go_num, HB6.out⟩
                      case measure => simp [intOf]; omega
                    · rw [h0] at hst HST2
                      have HS1 := Lib.hid hst; clear hst h0
                      have HAO := Lib.hid hao; clear hao
                      rw [HAO.out] at *
                      go_wp2_with fail
                      refine HS1.out.mono ?_
                      rintro e w6 ⟨rfl, b6⟩
                      have HB6 := Lib.hid (HBV.out.trans (b6.mono zv)); clear b6
                      have HS2 := Lib.hid (HST2.out w6 HB6.out)
                      have zv6 := HB6.out.size
                      go_wp2_with fail
                      refine HS2.out.mono ?_
                      rintro e w7 ⟨rfl, b7⟩
                      have HB7 := Lib.hid (HB6.out.trans (b7.mono zv6)); clear b7
                      go_wp2_with fail
                      go_roundw
                      case rel => exact ⟨j + 1, by omega, by go_num, HB7.out⟩
                      case measure => simp [intOf]; omega
                  · obtain rfl : j = OV.length := by omega
                    go_wp2_with fail
                    go_roundw
                    case rel => exact ⟨k + 1, S, OV, Z, ao, co, by omega, by go_num, by go_num, rfl, HSPE.out, HBK.out _ HBV.out⟩
                    case measure => simp [intOf]; omega
        · have q3 : (kd == 3) = false := by simpa using h3
          have q3' : (kd != 3) = true := by simpa using h3
          by_cases h4 : kd = 4
          · subst h4
            have hzX : Zd (wr.alloc (Obj.cells #[.int .i64 4, .int .i64 t, .int .i64 ky] 85)) (bnums w.heap.size wr.heap.size (wr.alloc (Obj.cells #[.int .i64 4, .int .i64 t, .int .i64 ky] 85))) w.heap.size Z := HZX.out
            have hSk : S ≤ k := by omega
            have hst := free_any hzX t
            obtain ⟨hnn, hmem⟩ := HNI.out.free t
            have e3 : (Z.free t).spawned = (S : Int) := by unfold ZS.free; split <;> exact hsS
            have e4 : (Z.free t).most = Z.most := by unfold ZS.free; split <;> rfl
            generalize Z.free t = Z1 at hst hnn e3 e4
            have HNN := Lib.hid hnn; clear hnn
            have HSPE := Lib.hid e3; clear e3
            have HM1 : Hid (Z1.most = M) := Lib.hid (by rw [e4, HMO.out])
            clear e4
            by_cases he : Z.inErr 3 t = 0
            · have hin := (among_iff OV t).2 (hmem he)
              rw [he] at hst
              have HSP := Lib.hid hst; clear hst
              have HIN := Lib.hid hin; clear hin
              clear hmem he hsS hsk hzX
              go_wp2_with fail
              refine HSP.out.mono ?_
              rintro e w5 ⟨rfl, y5, k5⟩
              have zz5 := k5.size
              simp only [World.size_alloc] at zz5
              have hbx5 := hbox.keep k5 (.inl (.inr rfl))
              obtain ⟨f0, f1, f2⟩ := hbx5.three
              have O5 := Lib.hid (own_keep HOB.out k5 (fun g cs hb => .inr ⟨cs, hb⟩))
              have K5 : Hid (Keep (fun k => k < w.heap.size) w w5) := Lib.hid (HKB.out.trans (k5.less (fun k h => .inl (.inl h))))
              have Y5 : Hid (Zd w5 (fun k => k < w.heap.size) w.heap.size Z1) := Lib.hid (y5.less (fun k _ h => .inl (.inl h)))
              have hbl5 : wr.heap.size < w5.heap.size := by omega
              clear y5 k5 hbx5 HSP HZB HKB HOB d0 d1 d2 hbox
              have hio5 : IntsAt w5 ao OV := by
                obtain ⟨ra, rcap, hre, hri⟩ := own_ints O5.out
                injection hre with hre1 _ hre2
                subst hre1; exact hri
              have hhas := has_ints (c := co) hio5 (by omega) t
              rw [HIN.out] at hhas
              have HHAS := Lib.hid hhas; clear hhas hio5
              have HR : Hid (NRel w M w.heap.size ao co OV Z1 (k + 1) w5) := Lib.hid ⟨Y5.out, HNN.out, by have := HSPE.out; omega, by omega, HM1.out, K5.out, O5.out⟩
              clear Y5 K5 O5
              go_wp2_with fail
              refine HHAS.out.mono ?_
              rintro e w6 ⟨rfl, rfl⟩
              obtain ⟨hzd, hni, hsp', hol', hmo', hkp', hown'⟩ := HR.out
              have hio : IntsAt w5 ao OV := by
                obtain ⟨ra, rcap, hre, hri⟩ := own_ints hown'
                injection hre with hre1 _ hre2
                subst hre1; exact hri
              have hcf : (cntS Z1.ths S : Int) ≤ M := by
                have := cntS_few Z1.ths S
                have := hzd.ok.few
                omega
              have HCL : Hid (∀ m, (cntS Z1.ths m : Int) ≤ 8) := Lib.hid (fun m => by have := cntS_few Z1.ths m; have := hzd.ok.eight; omega)
              have HCS : Hid (∀ m, cntS Z1.ths (m + 1) = cntS Z1.ths m + if 0 < stOf Z1.ths ((m : Int) + 1) then 1 else 0) := Lib.hid (fun m => rfl)
              have HST : Hid (∀ t wq, Below w5.heap.size w5 wq → Calls Try.prog 45 #[.pointer (some ⟨w.heap.size, 0, none⟩), .int .i64 t] wq fun e w' => e = .returned (.int .i64 (stOf Z1.ths t)) ∧ Below wq.heap.size wq w') := Lib.hid (fun t wq hb => state_any (hzd.below hb) t)
              have HSE : Hid (∀ j, j < OV.length → stOf Z1.ths (OV.getD j 0) = 3 ∨ stOf Z1.ths (OV.getD j 0) = 0) := Lib.hid (fun j hj => by
                have := hni.seen (OV.getD j 0) (by rw [List.getD_eq_getElem?_getD, List.getElem?_eq_getElem hj]; exact List.getElem_mem _)
                exact this.2.2)
              have HIO := Lib.hid hio; clear hio
              have HBK : Hid (∀ wq, Below w5.heap.size w5 wq → NRel w M w.heap.size ao co OV Z1 (k + 1) wq) := Lib.hid (fun wq hb => ⟨hzd.below hb, hni, hsp', hol', hmo', hkp'.trans (Keep.ofBelow0 hb), own_below hown' hb⟩)
              have hz5 : w.heap.size ≤ w5.heap.size := hkp'.size
              clear hzd hni hsp' hmo' hkp' hown'
              go_wp2_with fail
              go_loopw [13, 14] (fun c i wq => ∃ m : Nat, m ≤ S ∧ i = .int .i64 ((m : Int) + 1) ∧ c = .int .i64 (cntS Z1.ths m) ∧ Below w5.heap.size w5 wq) (fun _ i _ => S + 2 - (intOf i).toNat)
              case atStart => exact ⟨0, by omega, rfl, rfl, Below.refl _ _⟩
              case round =>
                obtain ⟨m, hm, rfl, rfl, hbq⟩ := hrel
                have zq := hbq.size
                have hcl := HCL.out m
                have HBQ := Lib.hid hbq; clear hbq
                by_cases hmS : m < S
                · have hcs := HCS.out m
                  have hst := HST.out ((m : Int) + 1) _ HBQ.out
                  generalize stOf Z1.ths ((m : Int) + 1) = x at hcs hst
                  generalize cntS Z1.ths m = c at hcl hcs ⊢
                  have HS1 := Lib.hid hst; clear hst
                  have hle : (m : Int) + 1 ≤ (S : Int) := by omega
                  by_cases hx : 0 < x
                  · rw [if_pos hx] at hcs
                    have HC := Lib.hid hcs; clear hcs
                    go_wp2_with fail
                    refine HS1.out.mono ?_
                    rintro e w6 ⟨rfl, b6⟩
                    have HB6 := Lib.hid (HBQ.out.trans (b6.mono zq)); clear b6
                    go_wp2_with fail
                    go_roundw
                    case rel => exact ⟨m + 1, by omega, by go_num, by rw [HC.out]; go_num, HB6.out⟩
                    case measure => simp [intOf]; omega
                  · rw [if_neg hx] at hcs
                    have HC := Lib.hid hcs; clear hcs
                    go_wp2_with fail
                    refine HS1.out.mono ?_
                    rintro e w6 ⟨rfl, b6⟩
                    have HB6 := Lib.hid (HBQ.out.trans (b6.mono zq)); clear b6
                    go_wp2_with fail
                    go_roundw
                    case rel => exact ⟨m + 1, by omega, by go_num, by rw [HC.out]; rfl, HB6.out⟩
                    case measure => simp [intOf]; omega
                · have hmm : m = S := by omega
                  have hgt : ¬ M < (cntS Z1.ths m : Int) := by rw [hmm]; omega
                  have hle : ¬ (m : Int) + 1 ≤ (S : Int) := by omega
                  generalize cntS Z1.ths m = c at hcl hgt ⊢
                  clear hmm hcf
                  go_wp2_with fail
                  go_loopw [122] (fun i wq => ∃ j : Nat, j ≤ OV.length ∧ i = .int .i64 j ∧ Below w5.heap.size w5 wq) (fun i _ => OV.length - (intOf i).toNat)
                  case atStart => exact ⟨0, by omega, rfl, HBQ.out⟩
                  case round =>
                    clear HBQ
                    obtain ⟨j, hj, rfl, hbv⟩ := hrel
                    have zv := hbv.size
                    have HBV := Lib.hid hbv; clear hbv
                    by_cases hjl : j < OV.length
                    · have hse := HSE.out j hjl
                      obtain ⟨bo, oo, hao, hbo, hco⟩ := (HIO.out.below HBV.out) j hjl
                      generalize OV.getD j 0 = tt at hco hse
                      have hst := HST.out tt _ HBV.out
                      have HST2 : Hid (∀ wq, Below w5.heap.size w5 wq → Calls Try.prog 45 #[.pointer (some ⟨w.heap.size, 0, none⟩), .int .i64 tt] wq fun e w' => e = .returned (.int .i64 (stOf Z1.ths tt)) ∧ Below wq.heap.size wq w') := Lib.hid (fun wq hb => HST.out tt wq hb)
                      rcases hse with h3 | h0
                      · rw [h3] at hst
                        have HS1 := Lib.hid hst; clear hst h3
                        have HAO := Lib.hid hao; clear hao
                        rw [HAO.out] at *
                        go_wp2_with fail
                        refine HS1.out.mono ?_
                        rintro e w6 ⟨rfl, b6⟩
                        have HB6 := Lib.hid (HBV.out.trans (b6.mono zv)); clear b6
                        go_wp2_with fail
                        go_roundw
                        case rel => exact ⟨j + 1, by omega, by go_num, HB6.out⟩
                        case measure => simp [intOf]; omega
                      · rw [h0] at hst HST2
                        have HS1 := Lib.hid hst; clear hst h0
                        have HAO := Lib.hid hao; clear hao
                        rw [HAO.out] at *
                        go_wp2_with fail
                        refine HS1.out.mono ?_
                        rintro e w6 ⟨rfl, b6⟩
                        have HB6 := Lib.hid (HBV.out.trans (b6.mono zv)); clear b6
                        have HS2 := Lib.hid (HST2.out w6 HB6.out)
                        have zv6 := HB6.out.size
                        go_wp2_with fail
                        refine HS2.out.mono ?_
                        rintro e w7 ⟨rfl, b7⟩
                        have HB7 := Lib.hid (HB6.out.trans (b7.mono zv6)); clear b7
                        go_wp2_with fail
                        go_roundw
                        case rel => exact ⟨j + 1, by omega, by go_num, HB7.out⟩
                        case measure => simp [intOf]; omega
                    · obtain rfl : j = OV.length := by omega
                      go_wp2_with fail
                      go_roundw
                      case rel => exact ⟨k + 1, S, OV, Z1, ao, co, by omega, by go_num, by go_num, rfl, HSPE.out, HBK.out _ HBV.out⟩
                      case measure => simp [intOf]; omega

            · obtain ⟨x, hx⟩ : ∃ x, Z.inErr 3 t = x := ⟨_, rfl⟩
              rw [hx] at hst he
              have hb0 : (x == 0) = false := by simpa using he
              have HSP := Lib.hid hst; clear hst
              clear hx he hsS hsk hzX hmem
              go_wp2_with fail
              refine HSP.out.mono ?_
              rintro e w5 ⟨rfl, y5, k5⟩
              have zz5 := k5.size
              simp only [World.size_alloc] at zz5
              have hbx5 := hbox.keep k5 (.inl (.inr rfl))
              obtain ⟨f0, f1, f2⟩ := hbx5.three
              have O5 := Lib.hid (own_keep HOB.out k5 (fun g cs hb => .inr ⟨cs, hb⟩))
              have K5 : Hid (Keep (fun k => k < w.heap.size) w w5) := Lib.hid (HKB.out.trans (k5.less (fun k h => .inl (.inl h))))
              have Y5 : Hid (Zd w5 (fun k => k < w.heap.size) w.heap.size Z1) := Lib.hid (y5.less (fun k _ h => .inl (.inl h)))
              have hbl5 : wr.heap.size < w5.heap.size := by omega
              clear y5 k5 hbx5 HSP HZB HKB HOB d0 d1 d2 hbox
              have HR : Hid (NRel w M w.heap.size ao co OV Z1 (k + 1) w5) := Lib.hid ⟨Y5.out, HNN.out, by have := HSPE.out; omega, by omega, HM1.out, K5.out, O5.out⟩
              clear Y5 K5 O5
              obtain ⟨hzd, hni, hsp', hol', hmo', hkp', hown'⟩ := HR.out
              have hio : IntsAt w5 ao OV := by
                obtain ⟨ra, rcap, hre, hri⟩ := own_ints hown'
                injection hre with hre1 _ hre2
                subst hre1; exact hri
              have hcf : (cntS Z1.ths S : Int) ≤ M := by
                have := cntS_few Z1.ths S
                have := hzd.ok.few
                omega
              have HCL : Hid (∀ m, (cntS Z1.ths m : Int) ≤ 8) := Lib.hid (fun m => by have := cntS_few Z1.ths m; have := hzd.ok.eight; omega)
              have HCS : Hid (∀ m, cntS Z1.ths (m + 1) = cntS Z1.ths m + if 0 < stOf Z1.ths ((m : Int) + 1) then 1 else 0) := Lib.hid (fun m => rfl)
              have HST : Hid (∀ t wq, Below w5.heap.size w5 wq → Calls Try.prog 45 #[.pointer (some ⟨w.heap.size, 0, none⟩), .int .i64 t] wq fun e w' => e = .returned (.int .i64 (stOf Z1.ths t)) ∧ Below wq.heap.size wq w') := Lib.hid (fun t wq hb => state_any (hzd.below hb) t)
              have HSE : Hid (∀ j, j < OV.length → stOf Z1.ths (OV.getD j 0) = 3 ∨ stOf Z1.ths (OV.getD j 0) = 0) := Lib.hid (fun j hj => by
                have := hni.seen (OV.getD j 0) (by rw [List.getD_eq_getElem?_getD, List.getElem?_eq_getElem hj]; exact List.getElem_mem _)
                exact this.2.2)
              have HIO := Lib.hid hio; clear hio
              have HBK : Hid (∀ wq, Below w5.heap.size w5 wq → NRel w M w.heap.size ao co OV Z1 (k + 1) wq) := Lib.hid (fun wq hb => ⟨hzd.below hb, hni, hsp', hol', hmo', hkp'.trans (Keep.ofBelow0 hb), own_below hown' hb⟩)
              have hz5 : w.heap.size ≤ w5.heap.size := hkp'.size
              clear hzd hni hsp' hmo' hkp' hown'
              go_wp2_with fail
              go_loopw [13, 14] (fun c i wq => ∃ m : Nat, m ≤ S ∧ i = .int .i64 ((m : Int) + 1) ∧ c = .int .i64 (cntS Z1.ths m) ∧ Below w5.heap.size w5 wq) (fun _ i _ => S + 2 - (intOf i).toNat)
              case atStart => exact ⟨0, by omega, rfl, rfl, Below.refl _ _⟩
              case round =>
                obtain ⟨m, hm, rfl, rfl, hbq⟩ := hrel
                have zq := hbq.size
                have hcl := HCL.out m
                have HBQ := Lib.hid hbq; clear hbq
                by_cases hmS : m < S
                · have hcs := HCS.out m
                  have hst := HST.out ((m : Int) + 1) _ HBQ.out
                  generalize stOf Z1.ths ((m : Int) + 1) = x at hcs hst
                  generalize cntS Z1.ths m = c at hcl hcs ⊢
                  have HS1 := Lib.hid hst; clear hst
                  have hle : (m : Int) + 1 ≤ (S : Int) := by omega
                  by_cases hx : 0 < x
                  · rw [if_pos hx] at hcs
                    have HC := Lib.hid hcs; clear hcs
                    go_wp2_with fail
                    refine HS1.out.mono ?_
                    rintro e w6 ⟨rfl, b6⟩
                    have HB6 := Lib.hid (HBQ.out.trans (b6.mono zq)); clear b6
                    go_wp2_with fail
                    go_roundw
                    case rel => exact ⟨m + 1, by omega, by go_num, by rw [HC.out]; go_num, HB6.out⟩
                    case measure => simp [intOf]; omega
                  · rw [if_neg hx] at hcs
                    have HC := Lib.hid hcs; clear hcs
                    go_wp2_with fail
                    refine HS1.out.mono ?_
                    rintro e w6 ⟨rfl, b6⟩
                    have HB6 := Lib.hid (HBQ.out.trans (b6.mono zq)); clear b6
                    go_wp2_with fail
                    go_roundw
                    case rel => exact ⟨m + 1, by omega, by go_num, by rw [HC.out]; rfl, HB6.out⟩
                    case measure => simp [intOf]; omega
                · have hmm : m = S := by omega
                  have hgt : ¬ M < (cntS Z1.ths m : Int) := by rw [hmm]; omega
                  have hle : ¬ (m : Int) + 1 ≤ (S : Int) := by omega
                  generalize cntS Z1.ths m = c at hcl hgt ⊢
                  clear hmm hcf
                  go_wp2_with fail
                  go_loopw [122] (fun i wq => ∃ j : Nat, j ≤ OV.length ∧ i = .int .i64 j ∧ Below w5.heap.size w5 wq) (fun i _ => OV.length - (intOf i).toNat)
                  case atStart => exact ⟨0, by omega, rfl, HBQ.out⟩
                  case round =>
                    clear HBQ
                    obtain ⟨j, hj, rfl, hbv⟩ := hrel
                    have zv := hbv.size
                    have HBV := Lib.hid hbv; clear hbv
                    by_cases hjl : j < OV.length
                    · have hse := HSE.out j hjl
                      obtain ⟨bo, oo, hao, hbo, hco⟩ := (HIO.out.below HBV.out) j hjl
                      generalize OV.getD j 0 = tt at hco hse
                      have hst := HST.out tt _ HBV.out
                      have HST2 : Hid (∀ wq, Below w5.heap.size w5 wq → Calls Try.prog 45 #[.pointer (some ⟨w.heap.size, 0, none⟩), .int .i64 tt] wq fun e w' => e = .returned (.int .i64 (stOf Z1.ths tt)) ∧ Below wq.heap.size wq w') := Lib.hid (fun wq hb => HST.out tt wq hb)
                      rcases hse with h3 | h0
                      · rw [h3] at hst
                        have HS1 := Lib.hid hst; clear hst h3
                        have HAO := Lib.hid hao; clear hao
                        rw [HAO.out] at *
                        go_wp2_with fail
                        refine HS1.out.mono ?_
                        rintro e w6 ⟨rfl, b6⟩
                        have HB6 := Lib.hid (HBV.out.trans (b6.mono zv)); clear b6
                        go_wp2_with fail
                        go_roundw
                        case rel => exact ⟨j + 1, by omega, by go_num, HB6.out⟩
                        case measure => simp [intOf]; omega
                      · rw [h0] at hst HST2
                        have HS1 := Lib.hid hst; clear hst h0
                        have HAO := Lib.hid hao; clear hao
                        rw [HAO.out] at *
                        go_wp2_with fail
                        refine HS1.out.mono ?_
                        rintro e w6 ⟨rfl, b6⟩
                        have HB6 := Lib.hid (HBV.out.trans (b6.mono zv)); clear b6
                        have HS2 := Lib.hid (HST2.out w6 HB6.out)
                        have zv6 := HB6.out.size
                        go_wp2_with fail
                        refine HS2.out.mono ?_
                        rintro e w7 ⟨rfl, b7⟩
                        have HB7 := Lib.hid (HB6.out.trans (b7.mono zv6)); clear b7
                        go_wp2_with fail
                        go_roundw
                        case rel => exact ⟨j + 1, by omega, by go_num, HB7.out⟩
                        case measure => simp [intOf]; omega
                    · obtain rfl : j = OV.length := by omega
                      go_wp2_with fail
                      go_roundw
                      case rel => exact ⟨k + 1, S, OV, Z1, ao, co, by omega, by go_num, by go_num, rfl, HSPE.out, HBK.out _ HBV.out⟩
                      case measure => simp [intOf]; omega
          · have q4 : (kd == 4) = false := by simpa using h4
            have q4' : (kd != 4) = true := by simpa using h4
            have hSk : S ≤ k := by omega
            have hst := does_zero HZB.out HWB.out kd t ky (by have := HSS.out; omega)
            have hnn := HNI.out.step t ky h1 h3 h4
            have e3 : (Z.step kd t ky).spawned = (S : Int) := by rw [step_sp Z kd t ky h1]; exact hsS
            have e4 := step_most Z kd t ky
            generalize Z.step kd t ky = Z1 at hst hnn e3 e4
            have HSP := Lib.hid hst; clear hst
            have HNN := Lib.hid hnn; clear hnn
            have HSPE := Lib.hid e3; clear e3
            have HM1 : Hid (Z1.most = M) := Lib.hid (by rw [e4, HMO.out])
            clear e4 hsS hsk h1 h3 h4
            go_wp2_with fail
            refine HSP.out.mono ?_
            rintro e w5 ⟨⟨rr, rfl⟩, y5, k5, n5⟩
            have zz5 := k5.size
            have HR : Hid (NRel w M w.heap.size ao co OV Z1 (k + 1) w5) := Lib.hid ⟨y5, HNN.out, by have := HSPE.out; omega, by omega, HM1.out, HKB.out.trans k5, num_own HOB.out n5⟩
            clear y5 k5 n5 HSP HZB HKB HOB HNI HOK HMO
            obtain ⟨hzd, hni, hsp', hol', hmo', hkp', hown'⟩ := HR.out
            have hio : IntsAt w5 ao OV := by
              obtain ⟨ra, rcap, hre, hri⟩ := own_ints hown'
              injection hre with hre1 _ hre2
              subst hre1; exact hri
            have hcf : (cntS Z1.ths S : Int) ≤ M := by
              have := cntS_few Z1.ths S
              have := hzd.ok.few
              omega
            have HCL : Hid (∀ m, (cntS Z1.ths m : Int) ≤ 8) := Lib.hid (fun m => by have := cntS_few Z1.ths m; have := hzd.ok.eight; omega)
            have HCS : Hid (∀ m, cntS Z1.ths (m + 1) = cntS Z1.ths m + if 0 < stOf Z1.ths ((m : Int) + 1) then 1 else 0) := Lib.hid (fun m => rfl)
            have HST : Hid (∀ t wq, Below w5.heap.size w5 wq → Calls Try.prog 45 #[.pointer (some ⟨w.heap.size, 0, none⟩), .int .i64 t] wq fun e w' => e = .returned (.int .i64 (stOf Z1.ths t)) ∧ Below wq.heap.size wq w') := Lib.hid (fun t wq hb => state_any (hzd.below hb) t)
            have HSE : Hid (∀ j, j < OV.length → stOf Z1.ths (OV.getD j 0) = 3 ∨ stOf Z1.ths (OV.getD j 0) = 0) := Lib.hid (fun j hj => by
              have := hni.seen (OV.getD j 0) (by rw [List.getD_eq_getElem?_getD, List.getElem?_eq_getElem hj]; exact List.getElem_mem _)
              exact this.2.2)
            have HIO := Lib.hid hio; clear hio
            have HBK : Hid (∀ wq, Below w5.heap.size w5 wq → NRel w M w.heap.size ao co OV Z1 (k + 1) wq) := Lib.hid (fun wq hb => ⟨hzd.below hb, hni, hsp', hol', hmo', hkp'.trans (Keep.ofBelow0 hb), own_below hown' hb⟩)
            have hz5 : w.heap.size ≤ w5.heap.size := hkp'.size
            clear hzd hni hsp' hmo' hkp' hown'
            go_wp2_with fail
            go_loopw [13, 14] (fun c i wq => ∃ m : Nat, m ≤ S ∧ i = .int .i64 ((m : Int) + 1) ∧ c = .int .i64 (cntS Z1.ths m) ∧ Below w5.heap.size w5 wq) (fun _ i _ => S + 2 - (intOf i).toNat)
            case atStart => exact ⟨0, by omega, rfl, rfl, Below.refl _ _⟩
            case round =>
              obtain ⟨m, hm, rfl, rfl, hbq⟩ := hrel
              have zq := hbq.size
              have hcl := HCL.out m
              have HBQ := Lib.hid hbq; clear hbq
              by_cases hmS : m < S
              · have hcs := HCS.out m
                have hst := HST.out ((m : Int) + 1) _ HBQ.out
                generalize stOf Z1.ths ((m : Int) + 1) = x at hcs hst
                generalize cntS Z1.ths m = c at hcl hcs ⊢
                have HS1 := Lib.hid hst; clear hst
                have hle : (m : Int) + 1 ≤ (S : Int) := by omega
                by_cases hx : 0 < x
                · rw [if_pos hx] at hcs
                  have HC := Lib.hid hcs; clear hcs
                  go_wp2_with fail
                  refine HS1.out.mono ?_
                  rintro e w6 ⟨rfl, b6⟩
                  have HB6 := Lib.hid (HBQ.out.trans (b6.mono zq)); clear b6
                  go_wp2_with fail
                  go_roundw
                  case rel => exact ⟨m + 1, by omega, by go_num, by rw [HC.out]; go_num, HB6.out⟩
                  case measure => simp [intOf]; omega
                · rw [if_neg hx] at hcs
                  have HC := Lib.hid hcs; clear hcs
                  go_wp2_with fail
                  refine HS1.out.mono ?_
                  rintro e w6 ⟨rfl, b6⟩
                  have HB6 := Lib.hid (HBQ.out.trans (b6.mono zq)); clear b6
                  go_wp2_with fail
                  go_roundw
                  case rel => exact ⟨m + 1, by omega, by go_num, by rw [HC.out]; rfl, HB6.out⟩
                  case measure => simp [intOf]; omega
              · have hmm : m = S := by omega
                have hgt : ¬ M < (cntS Z1.ths m : Int) := by rw [hmm]; omega
                have hle : ¬ (m : Int) + 1 ≤ (S : Int) := by omega
                generalize cntS Z1.ths m = c at hcl hgt ⊢
                clear hmm hcf
                go_wp2_with fail
                go_loopw [122] (fun i wq => ∃ j : Nat, j ≤ OV.length ∧ i = .int .i64 j ∧ Below w5.heap.size w5 wq) (fun i _ => OV.length - (intOf i).toNat)
                case atStart => exact ⟨0, by omega, rfl, HBQ.out⟩
                case round =>
                  clear HBQ
                  obtain ⟨j, hj, rfl, hbv⟩ := hrel
                  have zv := hbv.size
                  have HBV := Lib.hid hbv; clear hbv
                  by_cases hjl : j < OV.length
                  · have hse := HSE.out j hjl
                    obtain ⟨bo, oo, hao, hbo, hco⟩ := (HIO.out.below HBV.out) j hjl
                    generalize OV.getD j 0 = tt at hco hse
                    have hst := HST.out tt _ HBV.out
                    have HST2 : Hid (∀ wq, Below w5.heap.size w5 wq → Calls Try.prog 45 #[.pointer (some ⟨w.heap.size, 0, none⟩), .int .i64 tt] wq fun e w' => e = .returned (.int .i64 (stOf Z1.ths tt)) ∧ Below wq.heap.size wq w') := Lib.hid (fun wq hb => HST.out tt wq hb)
                    rcases hse with h3 | h0
                    · rw [h3] at hst
                      have HS1 := Lib.hid hst; clear hst h3
                      have HAO := Lib.hid hao; clear hao
                      rw [HAO.out] at *
                      go_wp2_with fail
                      refine HS1.out.mono ?_
                      rintro e w6 ⟨rfl, b6⟩
                      have HB6 := Lib.hid (HBV.out.trans (b6.mono zv)); clear b6
                      go_wp2_with fail
                      go_roundw
                      case rel => exact ⟨j + 1, by omega, by go_num, HB6.out⟩
                      case measure => simp [intOf]; omega
                    · rw [h0] at hst HST2
                      have HS1 := Lib.hid hst; clear hst h0
                      have HAO := Lib.hid hao; clear hao
                      rw [HAO.out] at *
                      go_wp2_with fail
                      refine HS1.out.mono ?_
                      rintro e w6 ⟨rfl, b6⟩
                      have HB6 := Lib.hid (HBV.out.trans (b6.mono zv)); clear b6
                      have HS2 := Lib.hid (HST2.out w6 HB6.out)
                      have zv6 := HB6.out.size
                      go_wp2_with fail
                      refine HS2.out.mono ?_
                      rintro e w7 ⟨rfl, b7⟩
                      have HB7 := Lib.hid (HB6.out.trans (b7.mono zv6)); clear b7
                      go_wp2_with fail
                      go_roundw
                      case rel => exact ⟨j + 1, by omega, by go_num, HB7.out⟩
                      case measure => simp [intOf]; omega
                  · obtain rfl : j = OV.length := by omega
                    go_wp2_with fail
                    go_roundw
                    case rel => exact ⟨k + 1, S, OV, Z1, ao, co, by omega, by go_num, by go_num, rfl, HSPE.out, HBK.out _ HBV.out⟩
                    case measure => simp [intOf]; omega
    · go_wp2_with fail
      go_ret
      exact ⟨rfl, hkp.toBelow (fun _ hk => hk) (Nat.le_refl _)⟩
end Go.Proofs.Ytlmgojnhmdppnaa
