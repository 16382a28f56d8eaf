/-
  EpochBounds, the walk. Condition: the script is shorter than 2^60 (the reach of the reading pays it).
-/
import Derived.Test.YtiiaajdkkofbjaaBounds
namespace Go.Proofs.Ytiiaajdkkofbjaa
open Go.RowKit Go.Maps
set_option linter.unusedVariables false

section
variable {w : World} {X : Nat → Prop} {pa py : Nat} {S : AS}
theorem bd_new (hX : ∀ k, w.heap.size ≤ k → ¬ X k) : Calls Try.prog 10 #[.int .i64 3000] w fun e w' => e = .returned (.pointer (some ⟨w.heap.size + 1, 0, none⟩)) ∧ Arena w' X (w.heap.size + 1) ⟨3000, 0, 0, 0, []⟩ ∧ Below w.heap.size w w' := new_any 3000 w X hX
theorem Yd.sizeLive {Y : YS} (h : Yd w X pa py Y S) {b : Int} (hwb : (ik b).wf = true) (hl : (look S.bl b).isSome = true) :
    Calls Try.prog 30 #[.pointer (some ⟨pa, 0, none⟩), .int .i64 b] w fun e w' => (∃ n : Int, e = .returned (.tuple #[.int .i64 n, .int .i64 0])) ∧ w = w' := by
  obtain ⟨cs, hc⟩ := Option.isSome_iff_exists.1 hl
  obtain ⟨v, h⟩ := h
  exact (size_hit h.ar hwb hc).mono fun _ _ hh => ⟨⟨_, hh.1⟩, hh.2⟩
end

theorem brel0 {w w3 : World} {pa py : Nat} {th bd top : Int} (h : Yd w3 (fun k => k < w.heap.size) pa py (YS.new th bd) ⟨3000, 0, 0, 0, []⟩) (hk : Keep (fun k => k < w.heap.size) w w3) (ht : top = min (max bd 0) 64) : BRel w w3 pa py top 0 :=
  ⟨hk, _, _, h, ⟨by simp [YS.new], by simp [YS.new]⟩, fun i _ => by
    have : i = 0 ∨ i = 1 ∨ i = 2 ∨ i = 3 ∨ i = 4 ∨ i = 5 ∨ i = 6 ∨ i = 7 ∨ i = 8 ∨ 9 ≤ i := by omega
    rcases this with rfl | rfl | rfl | rfl | rfl | rfl | rfl | rfl | rfl | h9
    all_goals first | rfl | (simp only [YS.new, List.getD_eq_getElem?_getD]; rw [List.getElem?_eq_none (by simpa using h9)]; rfl), ht.symm, Int.le_refl _, Int.le_refl _⟩
theorem brel_same {w wr : World} {pa py : Nat} {top : Int} {k : Nat} {Y : YS} {S : AS} {o : Obj} (hkp : Keep (fun k => k < w.heap.size) w wr) (hyd : Yd wr (fun k => k < w.heap.size) pa py Y S) (hri : Right Y S) (hout : OutOk Y) (hbd : Y.bound = top) (hnow : Y.now ≤ k) (hmade : S.made ≤ k) :
    BRel w (wr.alloc o) pa py top (k + 1) := ⟨hkp.alloc o, Y, S, hyd.alloc o, hri, hout, hbd, by omega, by omega⟩
set_option maxRecDepth 100000 in
set_option maxHeartbeats 8000000 in
theorem bounds_walk (th bd top : Int) (a0 : Option Addr) (len0 cap0 : Nat) (w : World) (hops : IsOps w a0 len0) (hlen : len0 ≤ 1152921504606846976) (htop : top = min (max bd 0) 64) :
    Calls Try.prog 6 #[.int .i64 th, .int .i64 bd, .slice a0 len0 cap0] w fun e w' => e = .returned (.bool true) ∧ Below w.heap.size w w' := by
  have hX : ∀ W : World, w.heap.size ≤ W.heap.size → ∀ k, W.heap.size ≤ k → ¬ k < w.heap.size := fun W h k hk => by omega
  have HX := Lib.hid hX; clear hX
  have HOPS := Lib.hid hops; clear hops
  have ht0 : 0 ≤ top ∧ top ≤ 64 := by omega
  have hc : (bd < 0 ∧ top = 0) ∨ (0 ≤ bd ∧ bd ≤ 64 ∧ top = bd) ∨ (64 < bd ∧ top = 64) := by omega
  have HTOP := Lib.hid htop; clear htop
  obtain ⟨ht0, ht64⟩ := ht0
  rcases hc with ⟨hb1, ht⟩ | ⟨hb1, hb2, ht⟩ | ⟨hb1, ht⟩
  all_goals
    subst ht
    go_enter Try.func6, Try.ntmps6
    go_wp2_with fail
    refine (bd_new (X := fun k => k < w.heap.size) (HX.out _ (Nat.le_refl _))).mono ?_
    rintro e w1 ⟨rfl, a1, b1⟩
    have z1 := b1.size
    have K1 := Lib.hid (Keep.ofBelow' (X := fun k => k < w.heap.size) b1); clear b1
    go_wp2_with fail
    refine (ealive_any _).mono ?_
    rintro e w2 ⟨rfl, b2⟩
    have z2 := b2.size
    have a2 := a1.below b2
    have K2 := Lib.hid (K1.out.trans (Keep.ofBelow' b2)); clear b2 K1 a1
    go_wp2_with fail
    refine (ynew_any a2 (HX.out _ (by omega)) th _).mono ?_
    rintro e w3 ⟨rfl, y3, b3⟩
    have z3 := b3.size
    have K3 := Lib.hid (K2.out.trans (Keep.ofBelow' b3)); clear b3 a2 K2
    generalize w.heap.size + 1 = pa at y3 ⊢
    generalize w2.heap.size = py at y3 z3 ⊢
    have HREL0 := Lib.hid (brel0 y3 K3.out HTOP.out)
    clear y3 K3 z1 z2 z3
    go_wp2_with fail
    go_loopw [39] (fun i wr => ∃ k : Nat, k ≤ len0 ∧ i = .int .i64 k ∧ BRel w wr pa py _ k) (fun i _ => len0 - (intOf i).toNat)
    case atStart => exact ⟨0, by omega, rfl, HREL0.out⟩
    case round =>
      clear HREL0
      obtain ⟨k, hk, rfl, ⟨hkp, Y, S, hyd, hri, hout, hbd, hnow, hmade⟩⟩ := hrel
      have zr := hkp.size
      have HKP := Lib.hid hkp; clear hkp
      by_cases hlt : k < len0
      · obtain ⟨b, off, kd, t, bb, rfl, hb, ⟨c0, c1, c2⟩, hwb⟩ := HOPS.out k hlt
        have hce := HKP.out.toBelow (fun _ hk => hk) (Nat.le_refl _)
        rw [← hce.cell (p := ⟨b, _, none⟩) hb] at c0 c1 c2
        clear hce
        by_cases h6 : kd = 6
        · subst h6
          have HST := Lib.hid (brel_same (k := k) (o := Obj.cells #[Value.int .i64 6, Value.int .i64 t, Value.int .i64 bb] 49) HKP.out hyd hri hout hbd hnow hmade)
          clear hyd hri hout hbd hnow hmade
          go_wp2_with fail
          go_roundw
          case rel => exact ⟨k + 1, by omega, by go_num, HST.out⟩
          case measure => simp [intOf]; omega
        · have hne : (kd == 6) = false := by rw [beq_eq_false_iff_ne]; exact h6
          -- one call of the script
          have hyd1 := hyd.alloc (Obj.cells #[Value.int .i64 kd, Value.int .i64 t, Value.int .i64 bb] 49)
          have hd := does_any hyd1 (fun j hj => HX.out wr zr j (by simp at hj; omega)) (by omega) (by omega) kd t bb hwb h6
          have hsok := hyd.sok
          have hri' := hri.step hsok kd t bb
          have hout' := hout.step (S := S) kd t bb
          have hbd' : (stepY Y S kd t bb).bound = _ := (step_fixed Y S kd t bb).2.trans hbd
          have hnow' := step_now Y S kd t bb
          have hmade' := step_made hri kd t bb
          have hnow2 : (stepY Y S kd t bb).now ≤ ((k + 1 : Nat) : Int) := by omega
          have hmade2 : (stepS Y S kd t bb).made ≤ ((k + 1 : Nat) : Int) := by omega
          generalize stepY Y S kd t bb = Y1 at hd hri' hout' hbd' hnow2
          generalize stepS Y S kd t bb = S1 at hd hri' hmade2
          have HD := Lib.hid hd; clear hd
          have HRI := Lib.hid hri'; clear hri'
          have HOUT := Lib.hid hout'; clear hout'
          have HBD := Lib.hid hbd'; clear hbd'
          have HNM := Lib.hid (And.intro hnow2 hmade2); clear hnow2 hmade2
          clear hyd hyd1 hri hout hbd hnow hmade hsok hnow' hmade' hwb
          go_wp2_with fail
          refine HD.out.mono ?_
          rintro e w4 ⟨⟨r, rfl⟩, y4, k4⟩
          have z4 := k4.size
          simp only [World.size_alloc] at z4
          have K4 := Lib.hid (HKP.out.trans ((Keep.ofBelow' ((Below.refl _ _).alloc (Nat.le_refl _) _)).trans k4)); clear k4
          have HY4 := Lib.hid y4; clear y4
          clear HD c0 c1 c2 hne h6
          go_wp2_with fail
          refine (waiting_any HY4.out).mono ?_
          rintro e w5 ⟨rfl, b5, hB5⟩
          have z5 := b5.size
          have HY5 := Lib.hid (HY4.out.below b5)
          have K5 := Lib.hid (K4.out.trans (Keep.ofBelow' b5)); clear b5
          have HB5 := Lib.hid hB5; clear hB5
          have hfew := HY5.out.ok.few
          generalize w4.heap.size = gw at HB5 z5 ⊢
          have HSUM := Lib.hid (sumTo_le Y1.wt hfew)
          go_wp2_with fail
          go_loopw [13, 14] (fun sm i wq => ∃ m : Nat, m ≤ 8 ∧ i = .int .i64 ((m + 1 : Nat) : Int) ∧ sm = .int .i64 (sumTo Y1.wt m : Nat) ∧ Below w5.heap.size w5 wq) (fun _ i _ => 9 - (intOf i).toNat)
          case atStart => exact ⟨0, by omega, rfl, rfl, Below.refl _ _⟩
          case round =>
            obtain ⟨m, hm, rfl, rfl, hbq⟩ := hrel
            have zq := hbq.size
            have HBQ := Lib.hid hbq; clear hbq
            have hsm := HSUM.out m hm
            by_cases hm8 : m < 8
            · have hl := HY5.out.ok.lims ((m + 1 : Nat) : Int)
              rw [HBD.out] at hl
              have hsu : sumTo Y1.wt (m + 1) = sumTo Y1.wt m + lim Y1.wt ((m + 1 : Nat) : Int) := rfl
              have hlb := fun (W : World) (hW : Below w5.heap.size w5 W) => limbo_any (HY5.out.below hW) ((m + 1 : Nat) : Int)
              have hll := lim_le Y1.wt ((m + 1 : Nat) : Int)
              generalize lim Y1.wt ((m + 1 : Nat) : Int) = lm at hl hsu hlb hll
              have HSU := Lib.hid hsu; clear hsu
              have HLB := Lib.hid hlb; clear hlb
              go_wp2_with fail
              refine (HLB.out _ HBQ.out).mono ?_
              rintro e w6 ⟨rfl, b6⟩
              have z6 := b6.size
              have HB6 := Lib.hid (HBQ.out.trans (b6.mono zq)); clear b6
              go_wp2_with fail
              refine (HLB.out _ HB6.out).mono ?_
              rintro e w7 ⟨rfl, b7⟩
              have HB7 := Lib.hid (HB6.out.trans (b7.mono (by omega))); clear b7
              go_wp2_with fail
              go_roundw
              case rel => exact ⟨m + 1, by omega, by go_num, by rw [HSU.out]; go_num, HB7.out⟩
              case measure => simp [intOf]; omega
            · obtain rfl : m = 8 := by omega
              have hs8 := sumTo_8 Y1.wt HY5.out.ok.thr
              have e9 : ((8 + 1 : Nat) : Int) = 9 := rfl
              rw [hs8] at hsm ⊢
              rw [e9]
              clear hs8 e9
              have hbne : (((Y1.wt.length : Nat) : Int) != ((Y1.wt.length : Nat) : Int)) = false := by simp
              go_wp2_with fail
              go_loopw [74] (fun i wq => ∃ j : Nat, j ≤ Y1.wt.length ∧ i = .int .i64 j ∧ Below w5.heap.size w5 wq) (fun i _ => Y1.wt.length - (intOf i).toNat)
              case atStart => exact ⟨0, by omega, rfl, HBQ.out⟩
              case round =>
                clear HBQ
                obtain ⟨j, hj, rfl, hbv⟩ := hrel
                have HBV := Lib.hid hbv; clear hbv
                by_cases hjl : j < Y1.wt.length
                · have hyv := HY5.out.below HBV.out
                  have hBv := HB5.out.below HBV.out HB5.out.lt
                  have hlen5 : (blocksOf Y1.wt).length = Y1.wt.length := by simp [blocksOf]
                  have cj := hBv.cell j
                  rw [cellsOf_get (by omega)] at cj
                  have hbj : (blocksOf Y1.wt).getD j 0 = Y1.wt[j].block := by simp [blocksOf, List.getD, hjl]
                  rw [hbj] at cj
                  have hsz := hyv.sizeLive (HY5.out.ok.wf _ (List.getElem_mem hjl)) (HRI.out.live _ (List.getElem_mem hjl))
                  have hha := has_any (c := Y1.wt.length) (n := j) hBv (by omega) (by omega) Y1.wt[j].block
                  rw [among_before Y1.wt HRI.out.once j hjl] at hha
                  generalize Y1.wt[j].block = bj at cj hsz hha
                  have HSZ := Lib.hid hsz; clear hsz
                  have HHA := Lib.hid hha; clear hha
                  clear hyv hBv hbj hlen5
                  go_wp2_with fail
                  refine HSZ.out.mono ?_
                  rintro e w8 ⟨⟨nn, rfl⟩, rfl⟩
                  go_wp2_with fail
                  refine HHA.out.mono ?_
                  rintro e w8 ⟨rfl, rfl⟩
                  go_wp2_with fail
                  go_roundw
                  case rel => exact ⟨j + 1, by omega, by go_num, HBV.out⟩
                  case measure => simp [intOf]; omega
                · obtain rfl : j = Y1.wt.length := by omega
                  go_wp2_with fail
                  go_roundw
                  case rel => exact ⟨k + 1, by omega, by go_num, K5.out.trans (Keep.ofBelow' HBV.out), Y1, S1, HY5.out.below HBV.out, HRI.out, HOUT.out, HBD.out, HNM.out.1, HNM.out.2⟩
                  case measure => simp [intOf]; omega
      · clear hk
        have h1 : AllOut Y 1 := ⟨hout, fun i h1 h2 => by omega⟩
        have HE0 : Hid (∃ Y S, Yd wr (fun k => k < w.heap.size) pa py Y S ∧ Right Y S ∧ AllOut Y 1) := Lib.hid ⟨Y, S, hyd, hri, h1⟩
        clear hyd hri hout hbd hnow hmade h1
        go_wp2_with fail
        go_loopw [19] (fun i wq => ∃ n : Nat, 1 ≤ n ∧ n ≤ 9 ∧ i = .int .i64 n ∧ (∃ Y S, Yd wq (fun k => k < w.heap.size) pa py Y S ∧ Right Y S ∧ AllOut Y n) ∧ Keep (fun k => k < w.heap.size) w wq) (fun i _ => 9 - (intOf i).toNat)
        case atStart => exact ⟨1, by omega, by omega, rfl, HE0.out, HKP.out⟩
        case round =>
          clear HE0 HKP zr
          obtain ⟨n, hn1, hn9, rfl, ⟨Y2, S2, hy2, hr2, ho2⟩, hk2⟩ := hrel
          have z2 := hk2.size
          have HK2 := Lib.hid hk2; clear hk2
          by_cases hn : n < 9
          · have hl := leave_any hy2 (n : Int)
            have hr3 : Right (Y2.leaveAt n) S2 := ⟨by rw [leave_wt]; exact hr2.live, by rw [leave_wt]; exact hr2.once⟩
            have ho3 := ho2.leave hy2.ok hn1
            have HL := Lib.hid hl; clear hl
            have HR3 := Lib.hid hr3; clear hr3
            have HO3 := Lib.hid ho3; clear ho3
            clear hy2 hr2 ho2
            go_wp2_with fail
            refine HL.out.mono ?_
            rintro e w9 ⟨rfl, y9, k9⟩
            have HY9 := Lib.hid y9; clear y9
            have HK9 := Lib.hid (HK2.out.trans k9); clear k9
            go_wp2_with fail
            go_roundw
            case rel => exact ⟨n + 1, by omega, by omega, by go_num, ⟨_, _, HY9.out, HR3.out, HO3.out⟩, HK9.out⟩
            case measure => simp [intOf]; omega
          · obtain rfl : n = 9 := by omega
            have hnone := ho2.none
            have hall := hr2.all hnone
            have hnil := sweep_none hnone
            have hfw := hy2.ok.few
            have HALL := Lib.hid hall; clear hall
            have HNIL := Lib.hid hnil; clear hnil
            have HY2 := Lib.hid hy2; clear hy2
            clear hr2 ho2 hnone
            go_wp2_with fail
            refine (waiting_any HY2.out).mono ?_
            rintro e w10 ⟨rfl, b10, _⟩
            have z10 := b10.size
            have HY10 := Lib.hid (HY2.out.below b10)
            have K10 := Lib.hid (HK2.out.trans (Keep.ofBelow' b10)); clear b10
            have hsw := sweep_any HY10.out (HX.out w10 (by omega))
            rw [HALL.out] at hsw
            have HSW := Lib.hid hsw; clear hsw
            go_wp2_with fail
            refine HSW.out.mono ?_
            rintro e w11 ⟨rfl, y11, k11⟩
            have z11 := k11.size
            have K11 := Lib.hid (K10.out.trans k11); clear k11
            have HY11 := Lib.hid y11; clear y11
            have hwt := waiting_any HY11.out
            rw [HNIL.out] at hwt
            have HWT := Lib.hid hwt; clear hwt
            have hbeq : (((Y2.wt.length : Nat) : Int) == ((Y2.wt.length : Nat) : Int)) = true := by simp
            go_wp2_with fail
            refine HWT.out.mono ?_
            rintro e w12 ⟨rfl, b12, _⟩
            have z12 := b12.size
            have HY12 := Lib.hid (HY11.out.below b12)
            have K12 := Lib.hid (K11.out.trans (Keep.ofBelow' b12)); clear b12
            have hs0 := sweep_any HY12.out (HX.out w12 (by omega))
            rw [sweepN_nil HNIL.out] at hs0
            have HS0 := Lib.hid hs0; clear hs0
            go_wp2_with fail
            refine HS0.out.mono ?_
            rintro e w13 ⟨rfl, _, k13⟩
            have K13 := Lib.hid (K12.out.trans k13); clear k13
            go_wp2_with fail
            go_ret
            exact ⟨rfl, K13.out.toBelow (fun _ hk => hk) (Nat.le_refl _)⟩
end Go.Proofs.Ytiiaajdkkofbjaa
