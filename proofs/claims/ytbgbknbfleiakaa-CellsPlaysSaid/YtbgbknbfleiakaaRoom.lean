/-
  CellsRoom: an Alloc of a right size is refused just for want of live room; what is freed gives its room back. No condition but the reach: a script takes at most 2^47 bytes.
-/
import Derived.Test.YtbgbknbfleiakaaScript
import Derived.Test.YtbgbknbfleiakaaNumbers
namespace Go.Proofs.Ytbgbknbfleiakaa
open Go.RowKit Go.Maps

theorem AS.step_most (S : AS) (kd b i v x : Int) : (S.step kd b i v x).most = S.most := by
  unfold AS.step
  repeat' split
  all_goals first
    | (unfold AS.allocAt; split <;> simp [AS.alloc]; done)
    | (unfold AS.freeAt; split <;> simp [AS.fault, AS.free]; done)
    | (unfold AS.touch; split <;> simp [AS.fault]; done)
    | ((unfold AS.storeAt; repeat' split) <;> simp [AS.fault, AS.set]; done)
    | ((unfold AS.swapAt; repeat' split) <;> simp [AS.fault, AS.set]; done)
    | ((unfold AS.addAt; repeat' split) <;> simp [AS.fault, AS.set]; done)
    | rfl

/-- What holds at the head of a round of the script. -/
structure ScRel (w wr : World) (pa k : Nat) (top : Int) (S : AS) : Prop where
  below : Below w.heap.size w wr
  arena : Arena wr (fun i => i < w.heap.size) pa S
  most : S.most = top
  few : S.made ≤ k

theorem ScRel.step {w wr w1 : World} {pa k : Nat} {top : Int} {S : AS} (h : ScRel w wr pa k top S) {kd b i v x : Int} (o : Obj) (ha : Arena w1 (fun i => i < w.heap.size) pa (S.step kd b i v x)) (hk : Keep (fun i => i < w.heap.size) (wr.alloc o) w1) :
    ScRel w w1 pa (k + 1) top (S.step kd b i v x) :=
  ⟨(h.below.alloc h.below.size o).trans (hk.toBelow (fun _ hk => hk) (by have := h.below.size; simp; omega)), ha, by rw [AS.step_most]; exact h.most, by have := (S.step_made kd b i v x).2; have := h.few; omega⟩

theorem free_fresh {w : World} {X : Nat → Prop} {pa : Nat} {S : AS} {m : Nat} (h : Arena w X pa (S.alloc m)) (hS : S.Ok) (hw : (ik (S.made + 1)).wf = true) :
    Calls Try.prog 18 #[.pointer (some ⟨pa, 0, none⟩), .int .i64 (S.made + 1)] w fun e w' => e = .returned (.int .i64 0) ∧ Arena w' X pa { S with made := S.made + 1 } ∧ Keep X w w' := by
  have := free_hit h hw (look_alloc S m)
  have e : (S.alloc m).free (S.made + 1) (List.replicate m (0 : Int)).length = { S with made := S.made + 1 } := by
    have hc : cut ((S.made + 1, List.replicate m (0 : Int)) :: S.bl) (S.made + 1) = S.bl := by
      have : cut ((S.made + 1, List.replicate m (0 : Int)) :: S.bl) (S.made + 1) = cut S.bl (S.made + 1) := by simp [cut]
      rw [this]; exact cut_none (hS.fresh (by omega))
    simp only [AS.free, AS.alloc, List.length_replicate, hc]
    congr 1
    omega
  rw [e] at this
  exact this

set_option maxHeartbeats 4000000 in
set_option maxRecDepth 100000 in
theorem room_walk (most n : Int) (a0 : Option Addr) (len0 cap0 : Nat) (w : World) (ho : IsOps w a0 len0) (hlen : len0 ≤ 4611686018427387000) :
    Calls Try.prog 5 #[.int .i64 most, .slice a0 len0 cap0, .int .i64 n] w fun e w' => e = .returned (.bool true) ∧ Below w.heap.size w w' := by
  have hX : ∀ W : World, w.heap.size ≤ W.heap.size → ∀ k, W.heap.size ≤ k → ¬ k < w.heap.size := fun W h k hk => by omega
  have htop : ∃ top, min (max most 0) 65536 = top ∧ ((most < 0 ∧ top = 0) ∨ (0 ≤ most ∧ 65536 < most ∧ top = 65536) ∨ (0 ≤ most ∧ most ≤ 65536 ∧ top = most)) := by
    refine ⟨_, rfl, ?_⟩; omega
  obtain ⟨top, htop1, htop2⟩ := htop
  have HX := Lib.hid hX; clear hX
  have HO := Lib.hid ho; clear ho
  have HT1 := Lib.hid htop1; clear htop1
  have HT2 := Lib.hid htop2; clear htop2
  go_enter Try.func5, Try.ntmps5
  go_wp2_with fail
  refine (new_any most w (fun k => k < w.heap.size) (HX.out _ (Nat.le_refl _))).mono ?_
  rintro e w1 ⟨rfl, a1', b1⟩
  have z1' := b1.size
  go_wp2_with fail
  refine (alive_any _).mono ?_
  rintro e w2 ⟨rfl, b2⟩
  have HREL : Hid (ScRel w w2 (w.heap.size + 1) 0 top (AS.new most)) := ⟨b1.trans (b2.mono z1'), a1'.below b2, HT1.out, by simp [AS.new]⟩
  clear a1' b1 b2
  go_wp2_with fail
  generalize w.heap.size + 1 = pa at *
  go_loopw [34] (fun i wr => ∃ (k : Nat) (S : AS), k ≤ len0 ∧ i = .int .i64 k ∧ ScRel w wr pa k top S) (fun i _ => len0 - (intOf i).toNat)
  case atStart => exact ⟨0, _, by omega, rfl, HREL.out⟩
  case round =>
    clear HREL
    obtain ⟨k, S, hk, rfl, hr⟩ := hrel
    by_cases hkl : k < len0
    · obtain ⟨b, off, kd, bb, i, v, x, rfl, hb, ⟨c0, c1, c2, c3, c4⟩, hwb, _⟩ := HO.out k hkl
      have e : ∀ o, w.cell? ⟨b, o, none⟩ = wr.cell? ⟨b, o, none⟩ := fun o => (hr.below.cell (p := ⟨b, o, none⟩) hb).symm
      rw [e] at c0 c1 c2 c3 c4
      clear e
      have hcall := asks0_any (hr.arena.alloc (.cells #[.int .i64 kd, .int .i64 bb, .int .i64 i, .int .i64 v, .int .i64 x] 31)) (HX.out _ (by have := hr.below.size; simp; omega)) (by have := hr.few; omega) kd hwb i v x
      have HC := Lib.hid hcall; clear hcall
      have HREL := Lib.hid hr; clear hr
      go_wp2_with fail
      refine HC.out.mono ?_
      rintro e w3 ⟨⟨u, rfl⟩, a3, k3⟩
      have HREL3 := Lib.hid (HREL.out.step _ a3 k3)
      clear a3 k3
      go_wp2_with fail
      go_roundw
      case rel => exact ⟨k + 1, _, by omega, by go_num, HREL3.out⟩
      case measure => simp [intOf]; omega
    · have hu0 := hr.arena.ok.used0
      have hu1 := hr.arena.ok.used1
      have hmst := hr.most
      rw [hmst] at hu1
      have hm0 := hr.arena.ok.made0
      have hm1 : S.made ≤ 4611686018427387000 := by have := hr.few; omega
      have hfew := hr.arena.ok.few
      have HREL := Lib.hid hr; clear hr
      have HM := Lib.hid hmst; clear hmst
      have hlive := live_any HREL.out.arena
      have HL := Lib.hid hlive; clear hlive
      go_wp2_with fail
      refine HL.out.mono ?_
      rintro e w3 ⟨rfl, rfl⟩
      have hA := HREL.out.arena.drew
      have hB := HREL.out.below.drew
      clear HREL HL
      generalize wr.drew = W at hA hB ⊢
      have hlv := live_any hA
      have HLV := Lib.hid hlv; clear hlv
      by_cases hn : n < 1 ∨ 256 < n
      · have hbad := alloc_bad (w := W) (pa := pa) n hn
        have HBAD := Lib.hid hbad; clear hbad
        have HB := Lib.hid hB; clear hB
        clear hA
        rcases HT2.out with ⟨t0, rfl⟩ | ⟨t0, t1, rfl⟩ | ⟨t0, t1, rfl⟩
        all_goals
          clear HT1 HT2
          by_cases hn1 : n < 1
          all_goals
            go_wp2_with fail
            refine HBAD.out.mono ?_
            rintro e w4 ⟨rfl, rfl⟩
            go_wp2_with fail
            go_ret
            exact ⟨rfl, HB.out⟩
      · obtain ⟨m, rfl⟩ := Int.eq_ofNat_of_zero_le (a := n) (by omega)
        have hm1' : 1 ≤ m := by omega
        have hm2' : m ≤ 256 := by omega
        have g1 : (1 : Int) ≤ m := by omega
        have g2 : (m : Int) ≤ 256 := by omega
        clear hn
        by_cases hfull : S.most < S.used + m
        · have hf := alloc_full hA g1 g2 hfull
          have HF := Lib.hid hf; clear hf
          rw [HM.out] at hfull
          have g3 : top - S.used < m := by omega
          have HB := Lib.hid hB; clear hB
          have HA := Lib.hid hA; clear hA
          rcases HT2.out with ⟨t0, rfl⟩ | ⟨t0, t1, rfl⟩ | ⟨t0, t1, rfl⟩
          all_goals
            clear HT1 HT2
            go_wp2_with fail
            refine HF.out.mono ?_
            rintro e w4 ⟨rfl, kk, rfl⟩
            have hb4 : Below W.heap.size W (W.drewN kk) := ⟨rfl, rfl, rfl, Nat.le_refl _, fun _ _ => rfl⟩
            have hl4 := live_any (HA.out.below hb4)
            have HL4 := Lib.hid hl4; clear hl4
            have HB4 := Lib.hid (HB.out.trans (hb4.mono HB.out.size))
            clear hb4
            go_wp2_with fail
            refine HL4.out.mono ?_
            rintro e w5 ⟨rfl, rfl⟩
            go_wp2_with fail
            go_ret
            exact ⟨rfl, HB4.out.drew⟩
        · have hfull' : S.used + m ≤ S.most := by omega
          have hr1 := alloc_room hA hm1' hm2' hfull' (by omega) (HX.out _ hB.size)
          have HR1 := Lib.hid hr1; clear hr1
          have hwb : (ik (S.made + 1)).wf = true := WalkArith.wf_i64 (by omega)
          have HWB := Lib.hid hwb; clear hwb
          have HF := Lib.hid hfull'
          rw [HM.out] at hfull'
          clear hfull
          have HB := Lib.hid hB; clear hB
          have HOK := Lib.hid hA.ok
          have HA := Lib.hid hA; clear hA
          have g3 : (m : Int) ≤ top - S.used := by omega
          rcases HT2.out with ⟨t0, rfl⟩ | ⟨t0, t1, rfl⟩ | ⟨t0, t1, rfl⟩
          · exfalso; omega
          all_goals
            clear HT1 HT2
            go_wp2_with fail
            refine HR1.out.mono ?_
            rintro e w4 ⟨rfl, a4, k4⟩
            have HA4 := Lib.hid a4; clear a4
            have HB4 := Lib.hid (HB.out.trans (k4.toBelow (fun _ hk => hk) HB.out.size))
            clear k4
            have HLD : Hid (∀ j : Nat, j < m → Calls Try.prog 17 #[.pointer (some ⟨pa, 0, none⟩), .int .i64 (S.made + 1), .int .i64 j] w4 fun e w' => e = .returned (.tuple #[.int .i64 0, .int .i64 0]) ∧ w4 = w') := by
              intro j hj
              have := load_hit HA4.out HWB.out (look_alloc S m) (i := j) (by simpa using hj)
              have e0 : (List.replicate m (0 : Int)).getD j 0 = 0 := by simp [List.getD, hj]
              rw [e0] at this
              exact this
            go_wp2_with fail
            go_loop [17] (fun i => ∃ j : Nat, j ≤ m ∧ i = .int .i64 j) (fun i => m - (intOf i).toNat)
            case atStart => exact ⟨0, by omega, rfl⟩
            case round =>
              obtain ⟨j, hj, rfl⟩ := hrel
              by_cases hjm : j < m
              · go_wp2_with fail
                refine (HLD.out j hjm).mono ?_
                rintro e w5 ⟨rfl, rfl⟩
                go_wp2_with fail
                go_round
                case rel => exact ⟨j + 1, by omega, by go_num⟩
                case measure => simp [intOf]; omega
              · have hjm' : (m : Int) ≤ j := by omega
                clear HLD
                have hfr := free_fresh HA4.out HOK.out HWB.out
                have HFR := Lib.hid hfr; clear hfr
                go_wp2_with fail
                refine HFR.out.mono ?_
                rintro e w5 ⟨rfl, a5, k5⟩
                have hb5 := HB4.out.trans (k5.toBelow (fun _ hk => hk) HB4.out.size)
                have hl5 := live_any a5
                have hr5 := alloc_room a5.drew hm1' hm2' HF.out (by show S.made + 1 < _; omega) (HX.out _ hb5.size)
                have HB5 := Lib.hid hb5; clear hb5
                have HL5 := Lib.hid hl5; clear hl5
                have HR5 := Lib.hid hr5; clear hr5
                clear a5 k5
                go_wp2_with fail
                refine HL5.out.mono ?_
                rintro e w6 ⟨rfl, rfl⟩
                go_wp2_with fail
                refine HR5.out.mono ?_
                rintro e w7 ⟨rfl, _, k7⟩
                have HB7 := Lib.hid (HB5.out.drew.trans (k7.toBelow (fun _ hk => hk) HB5.out.drew.size))
                clear k7
                go_wp2_with fail
                go_ret
                exact ⟨rfl, HB7.out⟩

end Go.Proofs.Ytbgbknbfleiakaa
