/-
  SchedCounts, the walk. Conditions: the arguments' lengths.
-/
import Derived.Test.YtlmgojnhmdppnaaSc21
namespace Go.Proofs.Ytlmgojnhmdppnaa
open Go.RowKit Go.Maps
set_option linter.unusedVariables false

def cntP (l : List Th) (xs : List Int) : Nat → Nat
  | 0 => 0
  | j + 1 => cntP l xs j + if stOf l (xs.getD j 0) = 1 then 1 else 0
theorem cntP_le (l : List Th) (xs : List Int) (j : Nat) : cntP l xs j ≤ j := by
  induction j with
  | zero => exact Nat.le_refl _
  | succ j ih => simp only [cntP]; split <;> omega
def zP (Z : ZS) (g b : Int) : ZS := ⟨Z.most, Z.spawned, Z.ths, b, g⟩
theorem zP_pick1 {Z : ZS} {g b t : Int} (h : stOf Z.ths t = 1) (h0 : 0 ≤ g) (h1 : g < 4611686018427387904) : (zP Z g b).pick t = zP Z (g + 1) b := by
  unfold ZS.pick zP; dsimp only; rw [if_pos h, wrap_small (by omega) (by omega)]
theorem zP_pick0 {Z : ZS} {g b t : Int} (h : stOf Z.ths t ≠ 1) (h0 : 0 ≤ b) (h1 : b < 4611686018427387904) : (zP Z g b).pick t = zP Z g (b + 1) := by
  unfold ZS.pick zP; dsimp only; rw [if_neg h, wrap_small (by omega) (by omega)]

/-- The script, played: what a walk knows behind it. -/
def SRel (w : World) (ps : Nat) (k : Nat) (wr : World) : Prop := ∃ Z, Zd wr (fun k => k < w.heap.size) ps Z ∧ InvS Z k ∧ Keep (fun k => k < w.heap.size) w wr

set_option maxRecDepth 1000000 in
set_option maxHeartbeats 4000000 in
theorem counts_walk (a0 a1 : Option Addr) (c0 c1 len : Nat) (xs : List Int) (w : World) (hops : IsOps w a0 len) (hxs : IntsAt w a1 xs) (hlen : len ≤ 1152921504606846976) (hlx : xs.length ≤ 1152921504606846976) :
    Calls Try.prog 12 #[.slice a0 len c0, .slice a1 xs.length c1] w fun e w' => e = .returned (.bool true) ∧ Below w.heap.size w w' := by
  have HOPS := Lib.hid hops; clear hops
  have HXS := Lib.hid hxs; clear hxs
  go_enter Try.func12, Try.ntmps12
  go_wp2_with fail
  refine (new_sched 8 w (X := fun k => k < w.heap.size) (by omega)).mono ?_
  rintro e w1 ⟨rfl, a1', b1⟩
  have z1 := b1.size
  have K1 : Hid (Keep (fun k => k < w.heap.size) w w1) := Lib.hid (Keep.ofBelow0 b1)
  clear b1
  go_wp2_with fail
  refine (alive_any w1).mono ?_
  rintro e w2 ⟨rfl, b2⟩
  have hrel0 : SRel w w.heap.size 0 w2 := ⟨_, a1'.below b2, InvS.new _, K1.out.trans (Keep.ofBelow0 b2)⟩
  have z2 := b2.size
  have HREL0 := Lib.hid hrel0; clear hrel0 b2 a1' K1
  go_wp2_with fail
  go_loopw [26] (fun i wr => ∃ k : Nat, k ≤ len ∧ i = .int .i64 k ∧ SRel w w.heap.size k wr) (fun i _ => len - (intOf i).toNat)
  case atStart => exact ⟨0, by omega, rfl, HREL0.out⟩
  case round =>
    clear HREL0
    obtain ⟨k, hk, rfl, Z, hzd, hinv, hkp⟩ := hrel
    have zr := hkp.size
    by_cases hlt : k < len
    · obtain ⟨b, off, kd, t, ky, rfl, hb, d0, d1, d2⟩ := (HOPS.out.keep (hkp.toBelow (fun _ hk => hk) (Nat.le_refl _))) k hlt
      have hc := does_zero (hzd.alloc (Obj.cells #[.int .i64 kd, .int .i64 t, .int .i64 ky] 85)) (by simp; omega) kd t ky (by have := hinv.sp; omega)
      have hn := hinv.step (by omega) kd t ky
      have HC := Lib.hid hc; clear hc
      have HN := Lib.hid hn; clear hn hinv hzd
      have HKP := Lib.hid (hkp.alloc (Obj.cells #[.int .i64 kd, .int .i64 t, .int .i64 ky] 85)); clear hkp
      go_wp2_with fail
      refine HC.out.mono ?_
      rintro e w3 ⟨⟨rr, rfl⟩, y3, k3, _⟩
      have hrn : SRel w w.heap.size (k + 1) w3 := ⟨_, y3, HN.out, HKP.out.trans k3⟩
      have HRN := Lib.hid hrn; clear hrn y3 k3
      go_wp2_with fail
      go_roundw
      case rel => exact ⟨k + 1, by omega, by go_num, HRN.out⟩
      case measure => simp [intOf]; omega
    · have hkk : k ≤ len := hk
      have hinv' := hinv.mono hkk
      have g0 := hinv'.g0
      have g1 := hinv'.g1
      have b0 := hinv'.b0
      have b1 := hinv'.b1
      have hcnt := counts_any hzd
      have HZD := Lib.hid hzd; clear hzd
      have HKP := Lib.hid hkp; clear hkp
      have HCNT := Lib.hid hcnt; clear hcnt hinv hinv'
      obtain ⟨G, hG⟩ : ∃ G, Z.good = G := ⟨_, rfl⟩
      obtain ⟨D, hD⟩ : ∃ D, Z.bad = D := ⟨_, rfl⟩
      rw [hG] at g0 g1 HCNT
      rw [hD] at b0 b1 HCNT
      have hz0 : Z = zP Z G D := by unfold zP; rw [← hG, ← hD]
      have HZ0 := Lib.hid hz0; clear hz0 hG hD
      go_wp2_with fail
      refine HCNT.out.mono ?_
      rintro e w3 ⟨rfl, q, rfl⟩
      have y3 := HZD.out.keep (Y := fun _ => True) (Keep.drewN _ wr q) (fun _ _ => trivial)
      have hrd := ready_any y3
      have HRD := Lib.hid hrd; clear hrd
      have Y3 := Lib.hid y3; clear y3
      go_wp2_with fail
      refine HRD.out.mono ?_
      rintro e w4 ⟨u4, rfl, b4, o4⟩
      have hr8 : (readyT Z.ths).length ≤ 8 := by
        have := Y3.out.ok.eight
        unfold readyT; rw [List.length_map]; exact Nat.le_trans (List.length_filter_le _ _) this
      have y4 := Y3.out.below b4
      have k4 : Keep (fun k => k < w.heap.size) w w4 := (HKP.out.trans (Keep.drewN _ wr q)).trans (Keep.ofBelow0 b4)
      have hz4 : wr.heap.size ≤ w4.heap.size := b4.size
      obtain ⟨ar, cr, rfl, _⟩ := own_ints o4
      have hris := y4.ok.ris
      have hrel1 : Zd w4 (fun k => k < w.heap.size) w.heap.size (zP Z G D) := by rw [← HZ0.out]; exact y4
      have Y4 := Lib.hid hrel1; clear hrel1 y4
      have O4 := Lib.hid o4; clear o4
      have K4 := Lib.hid k4; clear k4
      have RIS := Lib.hid hris; clear hris
      have CL := Lib.hid (cntP_le Z.ths xs)
      clear HRD HCNT HZD HKP Y3 b4
      go_wp2_with fail
      go_loopw [11, 44] (fun c i wq => ∃ j : Nat, j ≤ xs.length ∧ i = .int .i64 j ∧ c = .int .i64 (cntP Z.ths xs j) ∧ Zd wq (fun k => k < w.heap.size) w.heap.size (zP Z (G + cntP Z.ths xs j) (D + j - cntP Z.ths xs j)) ∧ Keep (fun k => k < w.heap.size) w wq ∧
        wq.ownsRow wr.heap.size 3 1 (.slice ar (readyT Z.ths).length cr) (readyT Z.ths).length ((readyT Z.ths).map (Value.int .i64))) (fun _ i _ => xs.length - (intOf i).toNat)
      case atStart => exact ⟨0, by omega, rfl, rfl, by simpa [cntP] using Y4.out, K4.out, O4.out⟩
      case round =>
        clear Y4 K4 O4
        obtain ⟨j, hj, rfl, rfl, hzd, hkp, hown⟩ := hrel
        have zq := hkp.size
        have hcl := CL.out j
        by_cases hjl : j < xs.length
        · obtain ⟨b, off, rfl, hb, d0⟩ := (HXS.out.below (hkp.toBelow (fun _ hk => hk) (Nat.le_refl _))) j hjl
          obtain ⟨ra, rcap, hre, hri⟩ := own_ints hown
          injection hre with hre1 _ hre2
          subst hre1 hre2
          have hsc : cntP Z.ths xs (j + 1) = cntP Z.ths xs j + if stOf Z.ths (xs.getD j 0) = 1 then 1 else 0 := rfl
          have hmr := mem_ready RIS.out (xs.getD j 0)
          generalize xs.getD j 0 = p at d0 hsc hmr
          generalize cntP Z.ths xs j = c at hzd hcl hsc ⊢
          have hst := state_any hzd p
          have HST : Hid (Calls Try.prog 45 #[.pointer (some ⟨w.heap.size, 0, none⟩), .int .i64 p] wr fun e w' => e = .returned (.int .i64 (stOf Z.ths p)) ∧ Below wr.heap.size wr w') := Lib.hid hst
          clear hst
          have ST2 : Hid (∀ W g b, Zd W (fun k => k < w.heap.size) w.heap.size (zP Z g b) → Calls Try.prog 45 #[.pointer (some ⟨w.heap.size, 0, none⟩), .int .i64 p] W fun e w' => e = .returned (.int .i64 (stOf Z.ths p)) ∧ Below W.heap.size W w') := Lib.hid (fun W g b hh => state_any hh p)
          have PK : Hid (∀ W g b, Zd W (fun k => k < w.heap.size) w.heap.size (zP Z g b) → w.heap.size ≤ W.heap.size → Calls Try.prog 50 #[.pointer (some ⟨w.heap.size, 0, none⟩), .int .i64 p] W fun e w' => e = .returned (.bool (stOf Z.ths p == 1)) ∧ Zd w' (nums w.heap.size W) w.heap.size ((zP Z g b).pick p) ∧ Keep (nums w.heap.size W) W w') := Lib.hid (fun W g b hh hB => pick_any hh.nums p)
          have PE1 : Hid (stOf Z.ths p = 1 → (zP Z (G + c) (D + j - c)).pick p = zP Z (G + c + 1) (D + j - c)) := Lib.hid (fun hh => zP_pick1 hh (by omega) (by omega))
          have PE0 : Hid (stOf Z.ths p ≠ 1 → (zP Z (G + c) (D + j - c)).pick p = zP Z (G + c) (D + j - c + 1)) := Lib.hid (fun hh => zP_pick0 hh (by omega) (by omega))
          have hrl : (readyT Z.ths).length ≤ 2305843009213693952 := by omega
          have HAS : Hid (∀ W, wr.heap.size ≤ W.heap.size → Below wr.heap.size wr W → Calls Try.prog 21 #[.slice ar (readyT Z.ths).length cr, .int .i64 p] W fun e w' => e = .returned (.bool (stOf Z.ths p == 1)) ∧ W = w') := Lib.hid (fun W _ hb => by rw [← hmr]; exact has_ints (hri.below hb) hrl p)
          generalize stOf Z.ths p = x at *
          have HZD := Lib.hid hzd; clear hzd
          have HKP := Lib.hid hkp; clear hkp
          have HOWN := Lib.hid hown; clear hown hri
          clear hmr
          by_cases hx : x = 1
          · subst hx
            rw [if_pos rfl] at hsc
            have hpe := PE1.out rfl
            have HPE := Lib.hid hpe; clear hpe
            have HSC := Lib.hid hsc; clear hsc
            go_wp2_with fail
            refine HST.out.mono ?_
            rintro e w5 ⟨rfl, b5⟩
            have HH := Lib.hid (HAS.out w5 b5.size b5)
            have y5 := HZD.out.below b5
            have hp5 := PK.out w5 _ _ y5 (by have := b5.size; omega)
            rw [HPE.out] at hp5
            have HP5 := Lib.hid hp5; clear hp5 y5
            have K5 : Hid (Keep (fun k => k < w.heap.size) w w5) := Lib.hid (HKP.out.trans (Keep.ofBelow0 b5))
            have O5 := Lib.hid (own_below HOWN.out b5)
            clear b5 HAS PK PE1 PE0 HST
            go_wp2_with fail
            refine HH.out.mono ?_
            rintro e w6 ⟨rfl, rfl⟩
            go_wp2_with fail
            refine HP5.out.mono ?_
            rintro e w7 ⟨rfl, y7, k7⟩
            have hs7 := ST2.out w7 _ _ y7.old
            have HS7 := Lib.hid hs7; clear hs7
            have Y7 := Lib.hid y7.old
            have K7 := Lib.hid (K5.out.trans k7.old)
            have O7 := Lib.hid (own_nums O5.out k7)
            clear y7 k7 K5 O5 HP5 HH ST2
            go_wp2_with fail
            refine HS7.out.mono ?_
            rintro e w8 ⟨rfl, b8⟩
            have Y8 := Lib.hid (Y7.out.below b8)
            have K8 : Hid (Keep (fun k => k < w.heap.size) w w8) := Lib.hid (K7.out.trans (Keep.ofBelow0 b8))
            have O8 := Lib.hid (own_below O7.out b8)
            clear b8 Y7 K7 O7
            go_wp2_with fail
            go_roundw
            case rel => exact ⟨j + 1, by omega, by go_num, by rw [HSC.out]; go_num, by rw [HSC.out]; simpa [show G + ((c : Int) + 1) = G + c + 1 by omega, show D + ((j : Int) + 1) - ((c : Int) + 1) = D + j - c by omega] using Y8.out, K8.out, O8.out⟩
            case measure => simp [intOf]; omega
          · rw [if_neg hx] at hsc
            have hxb : (x == 1) = false := by simpa using hx
            have hxx : (x != x) = false := by simp
            have hpe := PE0.out hx
            rw [hxb] at HAS PK
            have HSC := Lib.hid hsc; clear hsc
            have HPE := Lib.hid hpe; clear hpe
            clear hx
            go_wp2_with fail
            refine HST.out.mono ?_
            rintro e w5 ⟨rfl, b5⟩
            have HH := Lib.hid (HAS.out w5 b5.size b5)
            have y5 := HZD.out.below b5
            have hp5 := PK.out w5 _ _ y5 (by have := b5.size; omega)
            rw [HPE.out] at hp5
            have HP5 := Lib.hid hp5; clear hp5 y5
            have K5 : Hid (Keep (fun k => k < w.heap.size) w w5) := Lib.hid (HKP.out.trans (Keep.ofBelow0 b5))
            have O5 := Lib.hid (own_below HOWN.out b5)
            clear b5 HAS PK PE1 PE0 HST
            go_wp2_with fail
            refine HH.out.mono ?_
            rintro e w6 ⟨rfl, rfl⟩
            go_wp2_with fail
            refine HP5.out.mono ?_
            rintro e w7 ⟨rfl, y7, k7⟩
            have hs7 := ST2.out w7 _ _ y7.old
            have HS7 := Lib.hid hs7; clear hs7
            have Y7 := Lib.hid y7.old
            have K7 := Lib.hid (K5.out.trans k7.old)
            have O7 := Lib.hid (own_nums O5.out k7)
            clear y7 k7 K5 O5 HP5 HH ST2
            go_wp2_with fail
            refine HS7.out.mono ?_
            rintro e w8 ⟨rfl, b8⟩
            have Y8 := Lib.hid (Y7.out.below b8)
            have K8 : Hid (Keep (fun k => k < w.heap.size) w w8) := Lib.hid (K7.out.trans (Keep.ofBelow0 b8))
            have O8 := Lib.hid (own_below O7.out b8)
            clear b8 Y7 K7 O7
            go_wp2_with fail
            go_roundw
            case rel => exact ⟨j + 1, by omega, by go_num, by rw [HSC.out]; rfl, by rw [HSC.out]; simpa [show D + ((j : Int) + 1) - (c : Int) = D + j - c + 1 by omega] using Y8.out, K8.out, O8.out⟩
            case measure => simp [intOf]; omega
        · obtain rfl : j = xs.length := by omega
          have hcnt := counts_any hzd
          have HCN : Hid (Calls Try.prog 43 #[.pointer (some ⟨w.heap.size, 0, none⟩)] wr fun e w' => e = .returned (.tuple #[.int .i64 (G + cntP Z.ths xs xs.length), .int .i64 (D + xs.length - cntP Z.ths xs xs.length)]) ∧ ∃ q, w' = wr.drewN q) := Lib.hid hcnt
          clear hcnt
          have HZD := Lib.hid hzd; clear hzd
          have HKP := Lib.hid hkp; clear hkp
          have HOWN := Lib.hid hown; clear hown
          generalize cntP Z.ths xs xs.length = c at *
          have q1 : wrap64 (G + c) = G + c := wrap_small (by omega) (by omega)
          have q2 : wrap64 (D + xs.length) = D + xs.length := wrap_small (by omega) (by omega)
          have q3 : wrap64 (D + xs.length - c) = D + xs.length - c := wrap_small (by omega) (by omega)
          go_wp2_with fail
          refine HCN.out.mono ?_
          rintro e w5 ⟨rfl, q, rfl⟩
          have y5 := HZD.out.keep (Y := fun _ => True) (Keep.drewN _ wr q) (fun _ _ => trivial)
          have o5 := own_keep HOWN.out (X := fun _ => True) (Keep.drewN _ wr q) (fun _ _ _ => trivial)
          have hrd := ready_any y5
          have HRD : Hid (Calls Try.prog 44 #[.pointer (some ⟨w.heap.size, 0, none⟩)] (wr.drewN q) fun e w' => ∃ u, e = .returned u ∧ Below (wr.drewN q).heap.size (wr.drewN q) w' ∧ w'.ownsRow (wr.drewN q).heap.size 3 1 u (readyT Z.ths).length ((readyT Z.ths).map (Value.int .i64))) := Lib.hid hrd
          have O5 := Lib.hid o5; clear o5
          clear y5 hrd
          go_wp2_with fail
          refine HRD.out.mono ?_
          rintro e w6 ⟨u6, rfl, b6, o6⟩
          have o6' := own_below O5.out b6
          obtain ⟨r6, t6, rfl, i6⟩ := own_ints o6
          obtain ⟨r7, t7, he7, i7⟩ := own_ints o6'
          injection he7 with he1 _ he2
          subst he1 he2
          have hsm := same_any (c := t6) (c' := cr) i6 i7 (by omega)
          have HSM := Lib.hid hsm; clear hsm i6 i7 o6 o6'
          have K6 : Hid (Keep (fun k => k < w.heap.size) w w6) := Lib.hid ((HKP.out.trans (Keep.drewN _ wr q)).trans (Keep.ofBelow0 b6))
          clear b6
          go_wp2_with fail
          refine HSM.out.mono ?_
          rintro e w7 ⟨rfl, q', rfl⟩
          have K7 := Lib.hid (K6.out.trans (Keep.drewN _ w6 q'))
          go_wp2_with fail
          go_ret
          exact ⟨rfl, K7.out.toBelow (fun _ hk => hk) (Nat.le_refl _)⟩
end Go.Proofs.Ytlmgojnhmdppnaa
