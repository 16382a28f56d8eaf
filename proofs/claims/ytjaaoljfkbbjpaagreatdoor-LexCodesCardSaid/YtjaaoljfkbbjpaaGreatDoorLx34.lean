/-
  LexCodes' walk: what 0' and a byte, and what digits are. Conditions: the listed variables hold what the row says.
-/
import Derived.Test.YtjaaoljfkbbjpaaGreatDoorLx28
import Derived.Test.YtjaaoljfkbbjpaaGreatDoorLx12
namespace Go.Proofs.YtjaaoljfkbbjpaaGreatDoor
open Go.RowKit Go.Shelf Go.Maps
set_option linter.unusedVariables false
set_option linter.unusedSimpArgs false

theorem and15_le (x : Int) : ∃ m : Nat, m ≤ 15 ∧ bits .and .i64 x 15 = (m : Int) := by
  have hm : ((BitVec.ofInt 64 x).toNat &&& 15) ≤ 15 := Nat.and_le_right
  refine ⟨((BitVec.ofInt 64 x).toNat &&& 15), hm, ?_⟩
  show IntKind.i64.wrap ((BitVec.ofInt 64 x &&& BitVec.ofInt 64 ((15 : Nat) : Int)).toNat : Int) = _
  rw [BitVec.toNat_and, show (BitVec.ofInt 64 ((15 : Nat) : Int)).toNat = 15 from by decide]
  exact (IntWalk.i64_left _).trans (IntWalk.wrap64_in _ (by omega))
theorem conv_one (W : World) (z : Int) (c : UInt8) (hz : z = (c.toNat : Int)) : (convert 38 9 (.slice (some ⟨W.heap.size, 0, none⟩) 1 1)).run Tryz.prog (W.alloc (.cells #[.int .u8 z] 5)) = .ok (.string (str [c])) (W.alloc (.cells #[.int .u8 z] 5)) := by
  subst hz
  have hb := Blk.new W 5 #[.int .u8 (c.toNat : Int)]
  have h : (W.alloc (.cells #[.int .u8 (c.toNat : Int)] 5)).ownsRow 0 5 1 (.slice (some ⟨W.heap.size, 0, none⟩) 1 1) [c].length ([c].map byteV) :=
    ⟨rfl, .inr ⟨_, 1, _, rfl, Nat.zero_le _, hb, Nat.le_refl _, by unfold maxLen; omega, rfl, rfl⟩⟩
  exact bytes_string h
theorem app48 (c : UInt8) : (⟨#[48, 39]⟩ : ByteArray) ++ str [c] = str [48, 39, c] := by apply ByteArray.ext; simp [str]
theorem app2 (c d : UInt8) : str [48, 39, c] ++ str [d] = str [48, 39, c, d] := by apply ByteArray.ext; simp [str]
theorem app0 (L : List UInt8) : (⟨#[48]⟩ : ByteArray) ++ str L = str (48 :: L) := by apply ByteArray.ext; simp [str]
theorem app0x (L : List UInt8) : str L ++ (⟨#[48, 120]⟩ : ByteArray) = str (L ++ [48, 120]) := by apply ByteArray.ext; simp [str]
theorem padded_succ (j N : Nat) : 48 :: padded j N = padded (j + 1) N := by simp [padded, List.replicate_succ]
set_option maxRecDepth 1000000 in
set_option maxHeartbeats 16000000 in
theorem codesLaw_any (c : Fin 256) (n x : Int) {w : World} (hv : LxVars w) (hn : n ≤ 9223372036854775807) : Calls Tryz.prog 7 #[.int .u8 (c.val : Int), .int .i64 n, .int .i64 x] w fun e w' => e = .returned (.bool true) ∧ Below w.heap.size w w' := by
  have HAL := Lib.hid (alive_any hv)
  have HV := Lib.hid hv
  have hc := c.isLt
  have hcv : ((UInt8.ofNat c.val).toNat : Int) = (c.val : Int) := by simp
  obtain ⟨a, ha⟩ : ∃ a, c.val = a := ⟨_, rfl⟩
  obtain ⟨b, hb⟩ : ∃ b, UInt8.ofNat c.val = b := ⟨_, rfl⟩
  have hwrong := code_wrong c
  have hright := code_right c
  rw [hb] at hwrong hright hcv
  rw [ha] at hright hcv hc
  rw [ha]
  clear hv
  have e1 := app48 b
  have z1 : (str [b]).size = 1 := by rw [str_size]; rfl
  have zA : (str [48, 39, b]).size = 3 := by rw [str_size]; rfl
  have z1 : (str [b]).size = 1 := by rw [str_size]; rfl
  have zA : (str [48, 39, b]).size = 3 := by rw [str_size]; rfl
  have z1 : (str [b]).size = 1 := by rw [str_size]; rfl
  have zA : (str [48, 39, b]).size = 3 := by rw [str_size]; rfl
  have z1 : (str [b]).size = 1 := by rw [str_size]; rfl
  have zA : (str [48, 39, b]).size = 3 := by rw [str_size]; rfl
  have z1 : (str [b]).size = 1 := by rw [str_size]; rfl
  have zA : (str [48, 39, b]).size = 3 := by rw [str_size]; rfl
  obtain ⟨sc, hsc⟩ : ∃ s, str [b] = s := ⟨_, rfl⟩
  obtain ⟨sA, hsA⟩ : ∃ s, str [48, 39, b] = s := ⟨_, rfl⟩
  rw [hsc, hsA] at e1
  rw [hsc] at z1
  rw [hsA] at zA
  have HCONV := Lib.hid (fun W => conv_one W (a : Int) b hcv.symm)
  rw [hsc] at HCONV
  have hok : okB b = (decide ((32 : Int) ≤ a) && decide ((a : Int) ≤ 126)) := by
    rw [← hcv]
    exact of_all256 (f := okB) (g := fun c => decide ((32 : Int) ≤ c.toNat) && decide ((c.toNat : Int) ≤ 126)) (by decide +kernel) b
  have hisq : isQ b = (decide ((a : Int) = 39) || decide ((a : Int) = 92)) := by
    rw [← hcv]
    exact of_all256 (f := isQ) (g := fun c => decide ((c.toNat : Int) = 39) || decide ((c.toNat : Int) = 92)) (by decide +kernel) b
  by_cases h1 : (32 : Int) ≤ a ∧ (a : Int) ≤ 126
  rotate_left
  · have hwr := hwrong (by rw [hok]; by_cases h : (32 : Int) ≤ a <;> simp [h] <;> omega)
    have hnq : isQ b = false := by rw [hisq, Bool.or_eq_false_iff]; constructor <;> exact decide_eq_false (by omega)
    have hct : str (codeText b) = sA := by unfold codeText; rw [hnq]; exact hsA
    have HTK := Lib.hid (fun (W : World) (h : LxVars W) => tokens_v (codeText b) h)
    rw [hct, hwr] at HTK
    have q1 : ((a : Int) == 39) = false := beq_eq_false_iff_ne.2 (by omega)
    have q2 : ((a : Int) == 92) = false := beq_eq_false_iff_ne.2 (by omega)
    have h1' : (a : Int) < 32 ∨ (32 ≤ (a : Int) ∧ 126 < (a : Int)) := by omega
    clear hwrong hright hok hisq hnq hct hwr hcv hsc hsA h1
    go_enter Tryz.func7, Tryz.ntmps7
    go_wp2_with fail
    refine HAL.out.mono ?_
    rintro e w1 ⟨rfl, hb1⟩
    have hcnv := HCONV.out w1
    have hb2 := hb1.alloc hb1.size (.cells #[.int .u8 (a : Int)] 5)
    have HV1 := Lib.hid (HV.out.below hb2)
    have HB1 := Lib.hid hb2
    clear hb1 hb2 HAL
    rcases h1' with h1' | ⟨h1', h2'⟩
    all_goals
      go_wp2_with fail
      refine (HTK.out _ HV1.out).mono ?_
      rintro e w2 ⟨b2, rfl, hF, hbs, hb2⟩
      have hv2 := HV1.out.below hb2
      have HC := Lib.hid (code_at hF hv2)
      have HF := Lib.hid hF
      have HV2 := Lib.hid hv2
      have HB2 := Lib.hid (below_next HB1.out hb2)
      clear hF hbs hb2 hv2 hcnv
      unfold faultV at *
      go_wp2_with fail
      refine HC.out.mono ?_
      rintro e w3 ⟨rfl, hb3⟩
      have hv3 := HV2.out.below hb3
      have HA := Lib.hid (at_at (HF.out.keep (Below.keeps hb3) (Blk.lt HF.out)) hv3)
      have HV3 := Lib.hid hv3
      have HB3 := Lib.hid (below_next HB2.out hb3)
      clear hb3 hv3 HC
      unfold faultV at *
      go_wp2_with fail
      refine HA.out.mono ?_
      rintro e w4 ⟨rfl, hb4⟩
      have HVX := Lib.hid (HV3.out.below hb4)
      have HBX := Lib.hid (below_next HB3.out hb4)
      clear hb4 HA
      by_cases hneg : n < 0
      · go_wp2_with fail
        go_ret
        exact ⟨rfl, HBX.out⟩
      obtain ⟨N, rfl⟩ : ∃ N : Nat, n = N := ⟨n.toNat, by omega⟩
      have hneg' : decide ((N : Int) < 0) = false := decide_eq_false (by omega)
      have hN : N < 9223372036854775808 := by omega
      have HDEC := Lib.hid (fun W => decimal_any N hN W)
      clear hneg
      go_wp2_with fail
      refine (HDEC.out _).mono ?_
      rintro e w5 ⟨rfl, hk5⟩
      have HV5 := Lib.hid (HVX.out.keep hk5 (fun _ _ => trivial))
      have HB5 := Lib.hid (below_keep HBX.out hk5)
      clear hk5 HDEC
      rw [show digs N = padded 0 N by simp [padded]]
      go_wp2_with fail
      obtain ⟨m, hm, hme⟩ := and15_le x
      obtain ⟨k5, hvs⟩ := number_alone m hm hN
      have htens := number_tens m hm hN
      go_loopw [10, 11] (fun d i wr => ∃ j : Nat, j ≤ m ∧ i = .int .i64 j ∧ d = .string (str (padded j N)) ∧ Keep (fun _ => True) w5 wr) (fun d i _ => 16 - (intOf i).toNat)
      case atStart => exact ⟨0, by omega, rfl, rfl, Keep.refl _ _⟩
      case round =>
        obtain ⟨j, hj, rfl, rfl, hL⟩ := hrel
        have HLW := Lib.hid hL
        have hps := padded_length j N
        have hpz := str_size (padded j N)
        clear hL
        by_cases hjm : j < m
        · have happ := app0 (padded j N)
          rw [padded_succ] at happ
          have HTE := Lib.hid htens
          have HVS := Lib.hid hvs
          clear htens hvs
          go_wp2_with fail
          go_roundw
          case rel => exact ⟨j + 1, by omega, by go_num, rfl, HLW.out⟩
          case measure => simp [intOf]; omega
        obtain rfl : j = m := by omega
        have HVW := Lib.hid (HV5.out.keep HLW.out (fun _ _ => trivial))
        have HBW := Lib.hid (below_keep HB5.out HLW.out)
        have happ := app0x (padded j N)
        have HT1 := Lib.hid (fun (W : World) (h : LxVars W) => tokens_v (padded j N ++ [48, 120]) h)
        have HT2 := Lib.hid (by have := fun (W : World) (h : LxVars W) => tokens_v (padded j N) h; rwa [hvs] at this)
        have hsl := str_list (padded j N)
        obtain ⟨sd, hsd⟩ : ∃ s, str (padded j N) = s := ⟨_, rfl⟩
        obtain ⟨sx, hsx⟩ : ∃ s, str (padded j N ++ [48, 120]) = s := ⟨_, rfl⟩
        rw [hsd] at hpz happ HT2 hsl
        rw [hsx] at happ HT1
        rw [hsd]
        clear hvs hjm
        go_wp2_with fail
        by_cases hbig : 922337203685477580 < N
        · have h1 := htens.1 hbig
          rw [h1] at HT1
          have hbig' : decide ((922337203685477580 : Int) < (N : Int)) = true := decide_eq_true (by omega)
          have hbig'' : (922337203685477580 : Int) < (N : Int) := by omega
          clear htens h1 hbig
          refine (HT1.out _ HVW.out).mono ?_
          rintro e w6 ⟨b6, rfl, hF, hbs, hb6⟩
          have HV6 := Lib.hid (HVW.out.below hb6)
          have HF := Lib.hid hF
          have HB6 := Lib.hid (below_next HBW.out hb6)
          clear hF hbs hb6
          unfold faultV
          go_wp2_with fail
          refine (HT2.out _ HV6.out).mono ?_
          rintro e w7 ⟨v7, rfl, hta7, hb7⟩
          have hv7 := HV6.out.below hb7
          have hF7 := HF.out.keep (Below.keeps hb7) (Blk.lt HF.out)
          have HC7 := Lib.hid (code_at hF7 hv7)
          have HF7 := Lib.hid hF7
          have HV7 := Lib.hid hv7
          have HB7 := Lib.hid (below_next HB6.out hb7)
          obtain ⟨g7, cp7, rfl, _, _, _, _, hc7⟩ := hta7.cap (by simp)
          have m1 := (hc7 0 _ rfl).c1
          have m2 := (hc7 0 _ rfl).c2
          simp only [Nat.zero_mul, Nat.zero_add, List.length_cons, List.length_nil] at m1 m2 ⊢
          rw [hsd] at m1
          clear hta7 hc7 hb7 hv7 hF7
          unfold faultV at *
          go_wp2_with fail
          refine HC7.out.mono ?_
          rintro e w8 ⟨rfl, hb8⟩
          have hv8 := HV7.out.below hb8
          have HC8 := Lib.hid (at_at (HF7.out.keep (Below.keeps hb8) (Blk.lt HF7.out)) hv8)
          have HB8 := Lib.hid (below_next HB7.out hb8)
          clear hb8 hv8
          unfold faultV at *
          go_wp2_with fail
          refine HC8.out.mono ?_
          rintro e w9 ⟨rfl, hb9⟩
          have HB9 := Lib.hid (below_next HB8.out hb9)
          clear hb9
          go_wp2_with fail
          go_ret
          exact ⟨rfl, HB9.out⟩
        · obtain ⟨k6, h1⟩ := htens.2 (by omega)
          rw [h1] at HT1
          have hbig' : decide ((922337203685477580 : Int) < (N : Int)) = false := decide_eq_false (by omega)
          have hbig'' : ¬ (922337203685477580 : Int) < (N : Int) := by omega
          have hmul : ((N * 10 : Nat) : Int) = (N : Int) * 10 := by omega
          have hrm : (-9223372036854775808 : Int) ≤ (N : Int) * 10 ∧ (N : Int) * 10 ≤ 9223372036854775807 := by omega
          have hwm := (IntWalk.i64_left ((N : Int) * 10)).trans (IntWalk.wrap64_in _ hrm)
          have HWM := Lib.hid hwm
          clear htens h1 hbig hrm hwm
          refine (HT1.out _ HVW.out).mono ?_
          rintro e w6 ⟨v6, rfl, hta6, hb6⟩
          have HV6 := Lib.hid (HVW.out.below hb6)
          have HB6 := Lib.hid (below_next HBW.out hb6)
          have HTA6 := Lib.hid hta6
          obtain ⟨a6, c6, rfl⟩ := hta6.is
          simp only [List.length_cons, List.length_nil] at HTA6 ⊢
          clear hta6 hb6
          go_wp2_with fail
          refine (HT2.out _ HV6.out).mono ?_
          rintro e w7 ⟨v7, rfl, hta7, hb7⟩
          have HB7 := Lib.hid (below_next HB6.out hb7)
          obtain ⟨g6, cp6, he6, _, _, _, hg6, hc6⟩ := (HTA6.out.keep (Below.keeps hb7) (fun g _ hg => hg)).cap (by simp)
          have l2 := (hc6 0 _ rfl).c2
          have l1 := (hc6 1 _ rfl).c1
          cases he6
          obtain ⟨g7, cp7, rfl, _, _, _, _, hc7⟩ := hta7.cap (by simp)
          have m1 := (hc7 0 _ rfl).c1
          have m2 := (hc7 0 _ rfl).c2
          simp only [Nat.zero_mul, Nat.zero_add, Nat.one_mul, Nat.reduceAdd, List.length_cons, List.length_nil] at m1 m2 l1 l2 ⊢
          rw [hsd] at m1
          rw [hmul] at l2
          rw [show str [120] = (⟨#[120]⟩ : ByteArray) from rfl] at l1
          clear hta7 hc7 hc6 hb7
          have hwm := HWM.out
          go_wp2_with fail
          go_ret
          exact ⟨rfl, HB7.out⟩
  by_cases ha9 : a = 39
  · have hrt := hright (by rw [hok]; simp; omega)
    have hqq : isQ b = true := by rw [hisq]; subst ha9; rfl
    have e2 := app2 b b
    obtain ⟨sB, hsB⟩ : ∃ s, str [48, 39, b, b] = s := ⟨_, rfl⟩
    rw [hsA, hsc, hsB] at e2
    have hct : str (codeText b) = sB := by unfold codeText; rw [hqq]; exact hsB
    have zB : sB.size = 4 := by rw [← hsB, str_size]; rfl
    clear hqq hsB
    have HTK := Lib.hid (fun (W : World) (h : LxVars W) => tokens_v (codeText b) h)
    have hsl := str_list (codeText b)
    rw [hct, hrt] at HTK
    rw [hct] at hsl
    have HCT := Lib.hid hct
    have h1a : decide ((a : Int) < 32) = false := decide_eq_false (by omega)
    have h1b : decide ((126 : Int) < (a : Int)) = false := decide_eq_false (by omega)
    have h1c : ¬ (a : Int) < 32 := by omega
    have h1d : ¬ (126 : Int) < (a : Int) := by omega
    clear hwrong hright hok hisq hct hrt hcv hsc hsA
    clear h1a h1b h1c h1d h1
    subst ha9
    simp only [show ((39 : Nat) : Int) = 39 from rfl] at HCONV HTK
    simp only [show ((39 : Nat) : Int) = 39 from rfl]
    go_enter Tryz.func7, Tryz.ntmps7
    go_wp2_with fail
    refine HAL.out.mono ?_
    rintro e w1 ⟨rfl, hb1⟩
    have hcnv := HCONV.out w1
    have hb2 := hb1.alloc hb1.size (.cells #[.int .u8 39] 5)
    have hcnv2 := HCONV.out (w1.alloc (.cells #[.int .u8 39] 5))
    rw [show (w1.alloc (.cells #[.int .u8 39] 5)).heap.size = w1.heap.size + 1 by simp] at hcnv2
    have hb2 := hb2.alloc hb2.size (.cells #[.int .u8 39] 5)
    have HV1 := Lib.hid (HV.out.below hb2)
    have HB1 := Lib.hid hb2
    clear hb1 hb2 HAL
    go_wp2_with fail
    refine (HTK.out _ HV1.out).mono ?_
    rintro e w2 ⟨v2, rfl, hta2, hb2⟩
    have hv2 := HV1.out.below hb2
    have HVX := Lib.hid hv2
    have HBX := Lib.hid (below_next HB1.out hb2)
    obtain ⟨g2, cp2, rfl, _, _, _, _, hc2⟩ := hta2.cap (by simp)
    have y0 := (hc2 0 _ rfl).c0
    have y1 := (hc2 0 _ rfl).c1
    have y2 := (hc2 0 _ rfl).c2
    simp only [Nat.zero_mul, Nat.zero_add, List.length_cons, List.length_nil] at y0 y1 y2 ⊢
    rw [HCT.out] at y1
    clear hta2 hc2 hb2 hv2 hcnv
    by_cases hneg : n < 0
    · go_wp2_with fail
      go_ret
      exact ⟨rfl, HBX.out⟩
    obtain ⟨N, rfl⟩ : ∃ N : Nat, n = N := ⟨n.toNat, by omega⟩
    have hneg' : decide ((N : Int) < 0) = false := decide_eq_false (by omega)
    have hN : N < 9223372036854775808 := by omega
    have HDEC := Lib.hid (fun W => decimal_any N hN W)
    clear hneg
    go_wp2_with fail
    refine (HDEC.out _).mono ?_
    rintro e w5 ⟨rfl, hk5⟩
    have HV5 := Lib.hid (HVX.out.keep hk5 (fun _ _ => trivial))
    have HB5 := Lib.hid (below_keep HBX.out hk5)
    clear hk5 HDEC
    rw [show digs N = padded 0 N by simp [padded]]
    go_wp2_with fail
    obtain ⟨m, hm, hme⟩ := and15_le x
    obtain ⟨k5, hvs⟩ := number_alone m hm hN
    have htens := number_tens m hm hN
    go_loopw [10, 11] (fun d i wr => ∃ j : Nat, j ≤ m ∧ i = .int .i64 j ∧ d = .string (str (padded j N)) ∧ Keep (fun _ => True) w5 wr) (fun d i _ => 16 - (intOf i).toNat)
    case atStart => exact ⟨0, by omega, rfl, rfl, Keep.refl _ _⟩
    case round =>
      obtain ⟨j, hj, rfl, rfl, hL⟩ := hrel
      have HLW := Lib.hid hL
      have hps := padded_length j N
      have hpz := str_size (padded j N)
      clear hL
      by_cases hjm : j < m
      · have happ := app0 (padded j N)
        rw [padded_succ] at happ
        have HTE := Lib.hid htens
        have HVS := Lib.hid hvs
        clear htens hvs
        go_wp2_with fail
        go_roundw
        case rel => exact ⟨j + 1, by omega, by go_num, rfl, HLW.out⟩
        case measure => simp [intOf]; omega
      obtain rfl : j = m := by omega
      have HVW := Lib.hid (HV5.out.keep HLW.out (fun _ _ => trivial))
      have HBW := Lib.hid (below_keep HB5.out HLW.out)
      have happ := app0x (padded j N)
      have HT1 := Lib.hid (fun (W : World) (h : LxVars W) => tokens_v (padded j N ++ [48, 120]) h)
      have HT2 := Lib.hid (by have := fun (W : World) (h : LxVars W) => tokens_v (padded j N) h; rwa [hvs] at this)
      have hsl := str_list (padded j N)
      obtain ⟨sd, hsd⟩ : ∃ s, str (padded j N) = s := ⟨_, rfl⟩
      obtain ⟨sx, hsx⟩ : ∃ s, str (padded j N ++ [48, 120]) = s := ⟨_, rfl⟩
      rw [hsd] at hpz happ HT2 hsl
      rw [hsx] at happ HT1
      rw [hsd]
      clear hvs hjm
      go_wp2_with fail
      by_cases hbig : 922337203685477580 < N
      · have h1 := htens.1 hbig
        rw [h1] at HT1
        have hbig' : decide ((922337203685477580 : Int) < (N : Int)) = true := decide_eq_true (by omega)
        have hbig'' : (922337203685477580 : Int) < (N : Int) := by omega
        clear htens h1 hbig
        refine (HT1.out _ HVW.out).mono ?_
        rintro e w6 ⟨b6, rfl, hF, hbs, hb6⟩
        have HV6 := Lib.hid (HVW.out.below hb6)
        have HF := Lib.hid hF
        have HB6 := Lib.hid (below_next HBW.out hb6)
        clear hF hbs hb6
        unfold faultV
        go_wp2_with fail
        refine (HT2.out _ HV6.out).mono ?_
        rintro e w7 ⟨v7, rfl, hta7, hb7⟩
        have hv7 := HV6.out.below hb7
        have hF7 := HF.out.keep (Below.keeps hb7) (Blk.lt HF.out)
        have HC7 := Lib.hid (code_at hF7 hv7)
        have HF7 := Lib.hid hF7
        have HV7 := Lib.hid hv7
        have HB7 := Lib.hid (below_next HB6.out hb7)
        obtain ⟨g7, cp7, rfl, _, _, _, _, hc7⟩ := hta7.cap (by simp)
        have m1 := (hc7 0 _ rfl).c1
        have m2 := (hc7 0 _ rfl).c2
        simp only [Nat.zero_mul, Nat.zero_add, List.length_cons, List.length_nil] at m1 m2 ⊢
        rw [hsd] at m1
        clear hta7 hc7 hb7 hv7 hF7
        unfold faultV at *
        go_wp2_with fail
        refine HC7.out.mono ?_
        rintro e w8 ⟨rfl, hb8⟩
        have hv8 := HV7.out.below hb8
        have HC8 := Lib.hid (at_at (HF7.out.keep (Below.keeps hb8) (Blk.lt HF7.out)) hv8)
        have HB8 := Lib.hid (below_next HB7.out hb8)
        clear hb8 hv8
        unfold faultV at *
        go_wp2_with fail
        refine HC8.out.mono ?_
        rintro e w9 ⟨rfl, hb9⟩
        have HB9 := Lib.hid (below_next HB8.out hb9)
        clear hb9
        go_wp2_with fail
        go_ret
        exact ⟨rfl, HB9.out⟩
      · obtain ⟨k6, h1⟩ := htens.2 (by omega)
        rw [h1] at HT1
        have hbig' : decide ((922337203685477580 : Int) < (N : Int)) = false := decide_eq_false (by omega)
        have hbig'' : ¬ (922337203685477580 : Int) < (N : Int) := by omega
        have hmul : ((N * 10 : Nat) : Int) = (N : Int) * 10 := by omega
        have hrm : (-9223372036854775808 : Int) ≤ (N : Int) * 10 ∧ (N : Int) * 10 ≤ 9223372036854775807 := by omega
        have hwm := (IntWalk.i64_left ((N : Int) * 10)).trans (IntWalk.wrap64_in _ hrm)
        have HWM := Lib.hid hwm
        clear htens h1 hbig hrm hwm
        refine (HT1.out _ HVW.out).mono ?_
        rintro e w6 ⟨v6, rfl, hta6, hb6⟩
        have HV6 := Lib.hid (HVW.out.below hb6)
        have HB6 := Lib.hid (below_next HBW.out hb6)
        have HTA6 := Lib.hid hta6
        obtain ⟨a6, c6, rfl⟩ := hta6.is
        simp only [List.length_cons, List.length_nil] at HTA6 ⊢
        clear hta6 hb6
        go_wp2_with fail
        refine (HT2.out _ HV6.out).mono ?_
        rintro e w7 ⟨v7, rfl, hta7, hb7⟩
        have HB7 := Lib.hid (below_next HB6.out hb7)
        obtain ⟨g6, cp6, he6, _, _, _, hg6, hc6⟩ := (HTA6.out.keep (Below.keeps hb7) (fun g _ hg => hg)).cap (by simp)
        have l2 := (hc6 0 _ rfl).c2
        have l1 := (hc6 1 _ rfl).c1
        cases he6
        obtain ⟨g7, cp7, rfl, _, _, _, _, hc7⟩ := hta7.cap (by simp)
        have m1 := (hc7 0 _ rfl).c1
        have m2 := (hc7 0 _ rfl).c2
        simp only [Nat.zero_mul, Nat.zero_add, Nat.one_mul, Nat.reduceAdd, List.length_cons, List.length_nil] at m1 m2 l1 l2 ⊢
        rw [hsd] at m1
        rw [hmul] at l2
        rw [show str [120] = (⟨#[120]⟩ : ByteArray) from rfl] at l1
        clear hta7 hc7 hc6 hb7
        have hwm := HWM.out
        go_wp2_with fail
        go_ret
        exact ⟨rfl, HB7.out⟩
  by_cases ha9 : a = 92
  · have hrt := hright (by rw [hok]; simp; omega)
    have hqq : isQ b = true := by rw [hisq]; subst ha9; rfl
    have e2 := app2 b b
    obtain ⟨sB, hsB⟩ : ∃ s, str [48, 39, b, b] = s := ⟨_, rfl⟩
    rw [hsA, hsc, hsB] at e2
    have hct : str (codeText b) = sB := by unfold codeText; rw [hqq]; exact hsB
    have zB : sB.size = 4 := by rw [← hsB, str_size]; rfl
    clear hqq hsB
    have HTK := Lib.hid (fun (W : World) (h : LxVars W) => tokens_v (codeText b) h)
    have hsl := str_list (codeText b)
    rw [hct, hrt] at HTK
    rw [hct] at hsl
    have HCT := Lib.hid hct
    have h1a : decide ((a : Int) < 32) = false := decide_eq_false (by omega)
    have h1b : decide ((126 : Int) < (a : Int)) = false := decide_eq_false (by omega)
    have h1c : ¬ (a : Int) < 32 := by omega
    have h1d : ¬ (126 : Int) < (a : Int) := by omega
    clear hwrong hright hok hisq hct hrt hcv hsc hsA
    clear h1a h1b h1c h1d h1
    subst ha9
    simp only [show ((92 : Nat) : Int) = 92 from rfl] at HCONV HTK
    simp only [show ((92 : Nat) : Int) = 92 from rfl]
    go_enter Tryz.func7, Tryz.ntmps7
    go_wp2_with fail
    refine HAL.out.mono ?_
    rintro e w1 ⟨rfl, hb1⟩
    have hcnv := HCONV.out w1
    have hb2 := hb1.alloc hb1.size (.cells #[.int .u8 92] 5)
    have hcnv2 := HCONV.out (w1.alloc (.cells #[.int .u8 92] 5))
    rw [show (w1.alloc (.cells #[.int .u8 92] 5)).heap.size = w1.heap.size + 1 by simp] at hcnv2
    have hb2 := hb2.alloc hb2.size (.cells #[.int .u8 92] 5)
    have HV1 := Lib.hid (HV.out.below hb2)
    have HB1 := Lib.hid hb2
    clear hb1 hb2 HAL
    go_wp2_with fail
    refine (HTK.out _ HV1.out).mono ?_
    rintro e w2 ⟨v2, rfl, hta2, hb2⟩
    have hv2 := HV1.out.below hb2
    have HVX := Lib.hid hv2
    have HBX := Lib.hid (below_next HB1.out hb2)
    obtain ⟨g2, cp2, rfl, _, _, _, _, hc2⟩ := hta2.cap (by simp)
    have y0 := (hc2 0 _ rfl).c0
    have y1 := (hc2 0 _ rfl).c1
    have y2 := (hc2 0 _ rfl).c2
    simp only [Nat.zero_mul, Nat.zero_add, List.length_cons, List.length_nil] at y0 y1 y2 ⊢
    rw [HCT.out] at y1
    clear hta2 hc2 hb2 hv2 hcnv
    by_cases hneg : n < 0
    · go_wp2_with fail
      go_ret
      exact ⟨rfl, HBX.out⟩
    obtain ⟨N, rfl⟩ : ∃ N : Nat, n = N := ⟨n.toNat, by omega⟩
    have hneg' : decide ((N : Int) < 0) = false := decide_eq_false (by omega)
    have hN : N < 9223372036854775808 := by omega
    have HDEC := Lib.hid (fun W => decimal_any N hN W)
    clear hneg
    go_wp2_with fail
    refine (HDEC.out _).mono ?_
    rintro e w5 ⟨rfl, hk5⟩
    have HV5 := Lib.hid (HVX.out.keep hk5 (fun _ _ => trivial))
    have HB5 := Lib.hid (below_keep HBX.out hk5)
    clear hk5 HDEC
    rw [show digs N = padded 0 N by simp [padded]]
    go_wp2_with fail
    obtain ⟨m, hm, hme⟩ := and15_le x
    obtain ⟨k5, hvs⟩ := number_alone m hm hN
    have htens := number_tens m hm hN
    go_loopw [10, 11] (fun d i wr => ∃ j : Nat, j ≤ m ∧ i = .int .i64 j ∧ d = .string (str (padded j N)) ∧ Keep (fun _ => True) w5 wr) (fun d i _ => 16 - (intOf i).toNat)
    case atStart => exact ⟨0, by omega, rfl, rfl, Keep.refl _ _⟩
    case round =>
      obtain ⟨j, hj, rfl, rfl, hL⟩ := hrel
      have HLW := Lib.hid hL
      have hps := padded_length j N
      have hpz := str_size (padded j N)
      clear hL
      by_cases hjm : j < m
      · have happ := app0 (padded j N)
        rw [padded_succ] at happ
        have HTE := Lib.hid htens
        have HVS := Lib.hid hvs
        clear htens hvs
        go_wp2_with fail
        go_roundw
        case rel => exact ⟨j + 1, by omega, by go_num, rfl, HLW.out⟩
        case measure => simp [intOf]; omega
      obtain rfl : j = m := by omega
      have HVW := Lib.hid (HV5.out.keep HLW.out (fun _ _ => trivial))
      have HBW := Lib.hid (below_keep HB5.out HLW.out)
      have happ := app0x (padded j N)
      have HT1 := Lib.hid (fun (W : World) (h : LxVars W) => tokens_v (padded j N ++ [48, 120]) h)
      have HT2 := Lib.hid (by have := fun (W : World) (h : LxVars W) => tokens_v (padded j N) h; rwa [hvs] at this)
      have hsl := str_list (padded j N)
      obtain ⟨sd, hsd⟩ : ∃ s, str (padded j N) = s := ⟨_, rfl⟩
      obtain ⟨sx, hsx⟩ : ∃ s, str (padded j N ++ [48, 120]) = s := ⟨_, rfl⟩
      rw [hsd] at hpz happ HT2 hsl
      rw [hsx] at happ HT1
      rw [hsd]
      clear hvs hjm
      go_wp2_with fail
      by_cases hbig : 922337203685477580 < N
      · have h1 := htens.1 hbig
        rw [h1] at HT1
        have hbig' : decide ((922337203685477580 : Int) < (N : Int)) = true := decide_eq_true (by omega)
        have hbig'' : (922337203685477580 : Int) < (N : Int) := by omega
        clear htens h1 hbig
        refine (HT1.out _ HVW.out).mono ?_
        rintro e w6 ⟨b6, rfl, hF, hbs, hb6⟩
        have HV6 := Lib.hid (HVW.out.below hb6)
        have HF := Lib.hid hF
        have HB6 := Lib.hid (below_next HBW.out hb6)
        clear hF hbs hb6
        unfold faultV
        go_wp2_with fail
        refine (HT2.out _ HV6.out).mono ?_
        rintro e w7 ⟨v7, rfl, hta7, hb7⟩
        have hv7 := HV6.out.below hb7
        have hF7 := HF.out.keep (Below.keeps hb7) (Blk.lt HF.out)
        have HC7 := Lib.hid (code_at hF7 hv7)
        have HF7 := Lib.hid hF7
        have HV7 := Lib.hid hv7
        have HB7 := Lib.hid (below_next HB6.out hb7)
        obtain ⟨g7, cp7, rfl, _, _, _, _, hc7⟩ := hta7.cap (by simp)
        have m1 := (hc7 0 _ rfl).c1
        have m2 := (hc7 0 _ rfl).c2
        simp only [Nat.zero_mul, Nat.zero_add, List.length_cons, List.length_nil] at m1 m2 ⊢
        rw [hsd] at m1
        clear hta7 hc7 hb7 hv7 hF7
        unfold faultV at *
        go_wp2_with fail
        refine HC7.out.mono ?_
        rintro e w8 ⟨rfl, hb8⟩
        have hv8 := HV7.out.below hb8
        have HC8 := Lib.hid (at_at (HF7.out.keep (Below.keeps hb8) (Blk.lt HF7.out)) hv8)
        have HB8 := Lib.hid (below_next HB7.out hb8)
        clear hb8 hv8
        unfold faultV at *
        go_wp2_with fail
        refine HC8.out.mono ?_
        rintro e w9 ⟨rfl, hb9⟩
        have HB9 := Lib.hid (below_next HB8.out hb9)
        clear hb9
        go_wp2_with fail
        go_ret
        exact ⟨rfl, HB9.out⟩
      · obtain ⟨k6, h1⟩ := htens.2 (by omega)
        rw [h1] at HT1
        have hbig' : decide ((922337203685477580 : Int) < (N : Int)) = false := decide_eq_false (by omega)
        have hbig'' : ¬ (922337203685477580 : Int) < (N : Int) := by omega
        have hmul : ((N * 10 : Nat) : Int) = (N : Int) * 10 := by omega
        have hrm : (-9223372036854775808 : Int) ≤ (N : Int) * 10 ∧ (N : Int) * 10 ≤ 9223372036854775807 := by omega
        have hwm := (IntWalk.i64_left ((N : Int) * 10)).trans (IntWalk.wrap64_in _ hrm)
        have HWM := Lib.hid hwm
        clear htens h1 hbig hrm hwm
        refine (HT1.out _ HVW.out).mono ?_
        rintro e w6 ⟨v6, rfl, hta6, hb6⟩
        have HV6 := Lib.hid (HVW.out.below hb6)
        have HB6 := Lib.hid (below_next HBW.out hb6)
        have HTA6 := Lib.hid hta6
        obtain ⟨a6, c6, rfl⟩ := hta6.is
        simp only [List.length_cons, List.length_nil] at HTA6 ⊢
        clear hta6 hb6
        go_wp2_with fail
        refine (HT2.out _ HV6.out).mono ?_
        rintro e w7 ⟨v7, rfl, hta7, hb7⟩
        have HB7 := Lib.hid (below_next HB6.out hb7)
        obtain ⟨g6, cp6, he6, _, _, _, hg6, hc6⟩ := (HTA6.out.keep (Below.keeps hb7) (fun g _ hg => hg)).cap (by simp)
        have l2 := (hc6 0 _ rfl).c2
        have l1 := (hc6 1 _ rfl).c1
        cases he6
        obtain ⟨g7, cp7, rfl, _, _, _, _, hc7⟩ := hta7.cap (by simp)
        have m1 := (hc7 0 _ rfl).c1
        have m2 := (hc7 0 _ rfl).c2
        simp only [Nat.zero_mul, Nat.zero_add, Nat.one_mul, Nat.reduceAdd, List.length_cons, List.length_nil] at m1 m2 l1 l2 ⊢
        rw [hsd] at m1
        rw [hmul] at l2
        rw [show str [120] = (⟨#[120]⟩ : ByteArray) from rfl] at l1
        clear hta7 hc7 hc6 hb7
        have hwm := HWM.out
        go_wp2_with fail
        go_ret
        exact ⟨rfl, HB7.out⟩
  have hrt := hright (by rw [hok]; simp; omega)
  have hnq : isQ b = false := by rw [hisq, Bool.or_eq_false_iff]; constructor <;> exact decide_eq_false (by omega)
  have hct : str (codeText b) = sA := by unfold codeText; rw [hnq]; exact hsA
  have q1 : ((a : Int) == 39) = false := beq_eq_false_iff_ne.2 (by omega)
  have q2 : ((a : Int) == 92) = false := beq_eq_false_iff_ne.2 (by omega)
  have HTK := Lib.hid (fun (W : World) (h : LxVars W) => tokens_v (codeText b) h)
  have hsl := str_list (codeText b)
  rw [hct, hrt] at HTK
  rw [hct] at hsl
  have HCT := Lib.hid hct
  have h1a : decide ((a : Int) < 32) = false := decide_eq_false (by omega)
  have h1b : decide ((126 : Int) < (a : Int)) = false := decide_eq_false (by omega)
  have h1c : ¬ (a : Int) < 32 := by omega
  have h1d : ¬ (126 : Int) < (a : Int) := by omega
  clear hwrong hright hok hisq hct hrt hcv hsc hsA
  go_enter Tryz.func7, Tryz.ntmps7
  go_wp2_with fail
  refine HAL.out.mono ?_
  rintro e w1 ⟨rfl, hb1⟩
  have hcnv := HCONV.out w1
  have hb2 := hb1.alloc hb1.size (.cells #[.int .u8 (a : Int)] 5)
  have HV1 := Lib.hid (HV.out.below hb2)
  have HB1 := Lib.hid hb2
  clear hb1 hb2 HAL
  go_wp2_with fail
  refine (HTK.out _ HV1.out).mono ?_
  rintro e w2 ⟨v2, rfl, hta2, hb2⟩
  have hv2 := HV1.out.below hb2
  have HVX := Lib.hid hv2
  have HBX := Lib.hid (below_next HB1.out hb2)
  obtain ⟨g2, cp2, rfl, _, _, _, _, hc2⟩ := hta2.cap (by simp)
  have y0 := (hc2 0 _ rfl).c0
  have y1 := (hc2 0 _ rfl).c1
  have y2 := (hc2 0 _ rfl).c2
  simp only [Nat.zero_mul, Nat.zero_add, List.length_cons, List.length_nil] at y0 y1 y2 ⊢
  rw [HCT.out] at y1
  clear hta2 hc2 hb2 hv2 hcnv
  by_cases hneg : n < 0
  · go_wp2_with fail
    go_ret
    exact ⟨rfl, HBX.out⟩
  obtain ⟨N, rfl⟩ : ∃ N : Nat, n = N := ⟨n.toNat, by omega⟩
  have hneg' : decide ((N : Int) < 0) = false := decide_eq_false (by omega)
  have hN : N < 9223372036854775808 := by omega
  have HDEC := Lib.hid (fun W => decimal_any N hN W)
  clear hneg
  go_wp2_with fail
  refine (HDEC.out _).mono ?_
  rintro e w5 ⟨rfl, hk5⟩
  have HV5 := Lib.hid (HVX.out.keep hk5 (fun _ _ => trivial))
  have HB5 := Lib.hid (below_keep HBX.out hk5)
  clear hk5 HDEC
  rw [show digs N = padded 0 N by simp [padded]]
  go_wp2_with fail
  obtain ⟨m, hm, hme⟩ := and15_le x
  obtain ⟨k5, hvs⟩ := number_alone m hm hN
  have htens := number_tens m hm hN
  go_loopw [10, 11] (fun d i wr => ∃ j : Nat, j ≤ m ∧ i = .int .i64 j ∧ d = .string (str (padded j N)) ∧ Keep (fun _ => True) w5 wr) (fun d i _ => 16 - (intOf i).toNat)
  case atStart => exact ⟨0, by omega, rfl, rfl, Keep.refl _ _⟩
  case round =>
    obtain ⟨j, hj, rfl, rfl, hL⟩ := hrel
    have HLW := Lib.hid hL
    have hps := padded_length j N
    have hpz := str_size (padded j N)
    clear hL
    by_cases hjm : j < m
    · have happ := app0 (padded j N)
      rw [padded_succ] at happ
      have HTE := Lib.hid htens
      have HVS := Lib.hid hvs
      clear htens hvs
      go_wp2_with fail
      go_roundw
      case rel => exact ⟨j + 1, by omega, by go_num, rfl, HLW.out⟩
      case measure => simp [intOf]; omega
    obtain rfl : j = m := by omega
    have HVW := Lib.hid (HV5.out.keep HLW.out (fun _ _ => trivial))
    have HBW := Lib.hid (below_keep HB5.out HLW.out)
    have happ := app0x (padded j N)
    have HT1 := Lib.hid (fun (W : World) (h : LxVars W) => tokens_v (padded j N ++ [48, 120]) h)
    have HT2 := Lib.hid (by have := fun (W : World) (h : LxVars W) => tokens_v (padded j N) h; rwa [hvs] at this)
    have hsl := str_list (padded j N)
    obtain ⟨sd, hsd⟩ : ∃ s, str (padded j N) = s := ⟨_, rfl⟩
    obtain ⟨sx, hsx⟩ : ∃ s, str (padded j N ++ [48, 120]) = s := ⟨_, rfl⟩
    rw [hsd] at hpz happ HT2 hsl
    rw [hsx] at happ HT1
    rw [hsd]
    clear hvs hjm
    go_wp2_with fail
    by_cases hbig : 922337203685477580 < N
    · have h1 := htens.1 hbig
      rw [h1] at HT1
      have hbig' : decide ((922337203685477580 : Int) < (N : Int)) = true := decide_eq_true (by omega)
      have hbig'' : (922337203685477580 : Int) < (N : Int) := by omega
      clear htens h1 hbig
      refine (HT1.out _ HVW.out).mono ?_
      rintro e w6 ⟨b6, rfl, hF, hbs, hb6⟩
      have HV6 := Lib.hid (HVW.out.below hb6)
      have HF := Lib.hid hF
      have HB6 := Lib.hid (below_next HBW.out hb6)
      clear hF hbs hb6
      unfold faultV
      go_wp2_with fail
      refine (HT2.out _ HV6.out).mono ?_
      rintro e w7 ⟨v7, rfl, hta7, hb7⟩
      have hv7 := HV6.out.below hb7
      have hF7 := HF.out.keep (Below.keeps hb7) (Blk.lt HF.out)
      have HC7 := Lib.hid (code_at hF7 hv7)
      have HF7 := Lib.hid hF7
      have HV7 := Lib.hid hv7
      have HB7 := Lib.hid (below_next HB6.out hb7)
      obtain ⟨g7, cp7, rfl, _, _, _, _, hc7⟩ := hta7.cap (by simp)
      have m1 := (hc7 0 _ rfl).c1
      have m2 := (hc7 0 _ rfl).c2
      simp only [Nat.zero_mul, Nat.zero_add, List.length_cons, List.length_nil] at m1 m2 ⊢
      rw [hsd] at m1
      clear hta7 hc7 hb7 hv7 hF7
      unfold faultV at *
      go_wp2_with fail
      refine HC7.out.mono ?_
      rintro e w8 ⟨rfl, hb8⟩
      have hv8 := HV7.out.below hb8
      have HC8 := Lib.hid (at_at (HF7.out.keep (Below.keeps hb8) (Blk.lt HF7.out)) hv8)
      have HB8 := Lib.hid (below_next HB7.out hb8)
      clear hb8 hv8
      unfold faultV at *
      go_wp2_with fail
      refine HC8.out.mono ?_
      rintro e w9 ⟨rfl, hb9⟩
      have HB9 := Lib.hid (below_next HB8.out hb9)
      clear hb9
      go_wp2_with fail
      go_ret
      exact ⟨rfl, HB9.out⟩
    · obtain ⟨k6, h1⟩ := htens.2 (by omega)
      rw [h1] at HT1
      have hbig' : decide ((922337203685477580 : Int) < (N : Int)) = false := decide_eq_false (by omega)
      have hbig'' : ¬ (922337203685477580 : Int) < (N : Int) := by omega
      have hmul : ((N * 10 : Nat) : Int) = (N : Int) * 10 := by omega
      have hrm : (-9223372036854775808 : Int) ≤ (N : Int) * 10 ∧ (N : Int) * 10 ≤ 9223372036854775807 := by omega
      have hwm := (IntWalk.i64_left ((N : Int) * 10)).trans (IntWalk.wrap64_in _ hrm)
      have HWM := Lib.hid hwm
      clear htens h1 hbig hrm hwm
      refine (HT1.out _ HVW.out).mono ?_
      rintro e w6 ⟨v6, rfl, hta6, hb6⟩
      have HV6 := Lib.hid (HVW.out.below hb6)
      have HB6 := Lib.hid (below_next HBW.out hb6)
      have HTA6 := Lib.hid hta6
      obtain ⟨a6, c6, rfl⟩ := hta6.is
      simp only [List.length_cons, List.length_nil] at HTA6 ⊢
      clear hta6 hb6
      go_wp2_with fail
      refine (HT2.out _ HV6.out).mono ?_
      rintro e w7 ⟨v7, rfl, hta7, hb7⟩
      have HB7 := Lib.hid (below_next HB6.out hb7)
      obtain ⟨g6, cp6, he6, _, _, _, hg6, hc6⟩ := (HTA6.out.keep (Below.keeps hb7) (fun g _ hg => hg)).cap (by simp)
      have l2 := (hc6 0 _ rfl).c2
      have l1 := (hc6 1 _ rfl).c1
      cases he6
      obtain ⟨g7, cp7, rfl, _, _, _, _, hc7⟩ := hta7.cap (by simp)
      have m1 := (hc7 0 _ rfl).c1
      have m2 := (hc7 0 _ rfl).c2
      simp only [Nat.zero_mul, Nat.zero_add, Nat.one_mul, Nat.reduceAdd, List.length_cons, List.length_nil] at m1 m2 l1 l2 ⊢
      rw [hsd] at m1
      rw [hmul] at l2
      rw [show str [120] = (⟨#[120]⟩ : ByteArray) from rfl] at l1
      clear hta7 hc7 hc6 hb7
      have hwm := HWM.out
      go_wp2_with fail
      go_ret
      exact ⟨rfl, HB7.out⟩
end Go.Proofs.YtjaaoljfkbbjpaaGreatDoor
