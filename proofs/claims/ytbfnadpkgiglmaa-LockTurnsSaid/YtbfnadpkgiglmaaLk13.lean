/-
  LockTurns, the walk. Conditions: the script's length.
-/
import Derived.Test.YtbfnadpkgiglmaaLk12
namespace Go.Proofs.Ytbfnadpkgiglmaa
open Go.RowKit Go.Maps
set_option linter.unusedVariables false
set_option linter.unusedSimpArgs false

theorem one_get (who n : Int) : LS.get [⟨true, who, n⟩] 1 = some ⟨true, who, n⟩ := rfl
theorem one_take (who n x : Int) (hx : 1 ≤ x) : LS.takeErr [⟨true, who, n⟩] 1 x = (if 0 < n ∧ who ≠ x then 141 else 0) ∧ LS.take [⟨true, who, n⟩] 1 x = (if 0 < n ∧ who ≠ x then [⟨true, who, n⟩] else [⟨true, x, n + 1⟩]) := by
  unfold LS.takeErr LS.take
  rw [one_get]
  dsimp only
  have hx' : ¬ x < 1 := by omega
  rw [if_neg hx', if_neg hx']
  exact ⟨rfl, by split <;> rfl⟩
theorem one_give (who n x : Int) (hx : 1 ≤ x) : LS.giveErr [⟨true, who, n⟩] 1 x = (if n = 0 ∨ who ≠ x then 150 else 0) ∧ LS.give [⟨true, who, n⟩] 1 x = (if n = 0 ∨ who ≠ x then [⟨true, who, n⟩] else if n = 1 then [⟨true, 0, 0⟩] else [⟨true, x, n - 1⟩]) := by
  unfold LS.giveErr LS.give
  rw [one_get]
  dsimp only
  have hx' : ¬ x < 1 := by omega
  rw [if_neg hx', if_neg hx']
  refine ⟨rfl, ?_⟩
  split
  · rfl
  · split <;> rfl

structure TRel (w : World) (pa mb : Nat) (t u who n : Int) (k : Nat) (wr : World) : Prop where
  at_ : LkAt wr pa mb [⟨true, who, n⟩] k
  bel : Below w.heap.size w wr
  num : (n = 0 ∧ who = 0) ∨ (1 ≤ n ∧ n ≤ k ∧ (who = t ∨ who = u))

set_option maxRecDepth 1000000 in
set_option maxHeartbeats 40000000 in
theorem turns_walk (t u : Int) (a : Option Addr) (ca : Nat) (ps : List Int) (w : World) (hps : IntsAt w a ps) (hlen : ps.length ≤ 2305843009213693951) :
    Calls Try.prog 6 #[.slice a ps.length ca, .int .i64 t, .int .i64 u] w fun e w' => e = .returned (.bool true) ∧ Below w.heap.size w w' := by
  have HPS := Lib.hid hps; clear hps
  have wf1 : (ik 1).wf = true := by decide
  by_cases hbad : t < 1 ∨ u < 1 ∨ t = u
  · go_enter Try.func6, Try.ntmps6
    go_wp2_with fail
    refine (new_any w).mono ?_
    rintro e w1 ⟨pa, mb, rfl, h, hpa, hmb, hb⟩
    have hz1 := hb.size
    have HB := Lib.hid hb; clear hb h
    go_wp2_with fail
    refine (alive_any w1).mono ?_
    rintro e w2 ⟨rfl, hb2⟩
    have HB2 : Hid (Below w.heap.size w w2) := Lib.hid (HB.out.trans (hb2.mono hz1)); clear hb2 HB
    by_cases h1 : t < 1
    · clear hbad
      go_wp2
      go_ret
      exact ⟨rfl, HB2.out⟩
    · by_cases h2 : u < 1
      · clear hbad
        go_wp2
        go_ret
        exact ⟨rfl, HB2.out⟩
      · have h3 : (t == u) = true := by simp; omega
        clear hbad
        go_wp2
        go_ret
        exact ⟨rfl, HB2.out⟩
  · have ht : ¬ t < 1 := by omega
    have hu : ¬ u < 1 := by omega
    have htu : (t == u) = false := by simp; omega
    clear hbad
    go_enter Try.func6, Try.ntmps6
    go_wp2_with fail
    refine (new_any w).mono ?_
    rintro e w1 ⟨pa, mb, rfl, h, hpa, hmb, hb⟩
    have hz1 := hb.size
    have HB := Lib.hid hb; clear hb
    have HH := Lib.hid h; clear h
    go_wp2_with fail
    refine (alive_any w1).mono ?_
    rintro e w2 ⟨rfl, hb2⟩
    have HB2 : Hid (Below w.heap.size w w2) := Lib.hid (HB.out.trans (hb2.mono hz1))
    have hc := make_any (HH.out.below hb2) (by decide)
    change Calls _ _ _ _ (fun e w' => e = .returned (.tuple #[.int .i64 1, .int .i64 0]) ∧ LkAt w' pa mb [⟨true, 0, 0⟩] 0 ∧ KeepL pa mb w2 w') at hc
    have HC := Lib.hid hc; clear hc hb2 HH HB
    go_wp2_with fail
    refine HC.out.mono ?_
    rintro e w3 ⟨rfl, h, hk⟩
    have REL0 : Hid (TRel w pa mb t u 0 0 0 w3) := Lib.hid ⟨h, KeepL.bel HB2.out hk hpa hmb, .inl ⟨rfl, rfl⟩⟩
    clear h hk HC HB2
    go_wp2_with fail
    go_loopw [10, 11, 46] (fun x y i wr => ∃ (k : Nat) (who n : Int), k ≤ ps.length ∧ x = .int .i64 who ∧ y = .int .i64 n ∧ i = .int .i64 k ∧ TRel w pa mb t u who n k wr) (fun _ _ i _ => ps.length - (intOf i).toNat)
    case atStart => exact ⟨0, 0, 0, by omega, rfl, rfl, rfl, REL0.out⟩
    case round =>
      clear REL0
      obtain ⟨k, who, n, hk, rfl, rfl, rfl, hrel⟩ := hrel
      have hzr := hrel.bel.size
      have hnum := hrel.num
      by_cases hlt : k < ps.length
      · obtain ⟨b, off, rfl, hbk, hc⟩ := (HPS.out.below (hrel.bel)) k hlt
        generalize ps.getD k 0 = p at hc
        cases hp1 : (bits BinOp.and IntKind.i64 p 1 == 1) with
        | true =>
          cases hp2 : (bits BinOp.and IntKind.i64 p 2 == 0) with
          | true =>
            have hcl := take_any hrel.at_ (by omega) (by omega) wf1 u
            rw [(one_take who n u (by omega)).1, (one_take who n u (by omega)).2] at hcl
            by_cases hw : 0 < n ∧ who ≠ u
            · rw [if_pos hw, if_pos hw] at hcl
              obtain ⟨hw0, hw1⟩ := hw
              have hb3 : (who != u) = true := by simpa using hw1
              have HC := Lib.hid hcl; clear hcl
              have HBR := Lib.hid hrel.bel; clear hrel
              go_wp2_with fail
              refine HC.out.mono ?_
              rintro e w4 ⟨rfl, hat, hkk⟩
              clear HC
              have hbl := KeepL.bel HBR.out hkk hpa hmb
              have how := owner_any hat wf1
              change Calls _ _ _ _ (fun e w' => e = .returned (.tuple #[.int .i64 (who), .int .i64 (n)]) ∧ Below w4.heap.size w4 w') at how
              have HAT := Lib.hid hat
              have HBL := Lib.hid hbl
              have HOW := Lib.hid how
              clear hat hbl how hkk HBR
              go_wp2_with fail
              refine HOW.out.mono ?_
              rintro e w5 ⟨rfl, hb5⟩
              have HF : Hid (TRel w pa mb t u (who) (n) (k + 1) w5) := Lib.hid ⟨(HAT.out.below hb5).mono (by omega), HBL.out.trans (hb5.mono (by have := HBL.out.size; omega)), by omega⟩
              clear hb5 HAT HBL HOW
              go_wp2_with fail
              go_roundw
              case rel => exact ⟨k + 1, (who), (n), by omega, rfl, rfl, by go_num, HF.out⟩
              case measure => simp [intOf]; omega
            · rw [if_neg hw, if_neg hw] at hcl
              have hwr : IntKind.i64.wrap (n + 1) = n + 1 := by rw [IntKind.wrap_i64]; omega
              have hn1 : ((n + 1) == 0) = false := by simp; omega
              by_cases hw0 : 0 < n
              · have hw2 : who = u := by omega
                have hb3 : (who != u) = false := by simpa using hw2
                have HC := Lib.hid hcl; clear hcl
                have HBR := Lib.hid hrel.bel; clear hrel
                go_wp2_with fail
                refine HC.out.mono ?_
                rintro e w4 ⟨rfl, hat, hkk⟩
                clear HC
                have hbl := KeepL.bel HBR.out hkk hpa hmb
                have how := owner_any hat wf1
                change Calls _ _ _ _ (fun e w' => e = .returned (.tuple #[.int .i64 (u), .int .i64 (n + 1)]) ∧ Below w4.heap.size w4 w') at how
                have HAT := Lib.hid hat
                have HBL := Lib.hid hbl
                have HOW := Lib.hid how
                clear hat hbl how hkk HBR
                go_wp2_with fail
                refine HOW.out.mono ?_
                rintro e w5 ⟨rfl, hb5⟩
                have HF : Hid (TRel w pa mb t u (u) (n + 1) (k + 1) w5) := Lib.hid ⟨(HAT.out.below hb5).mono (by omega), HBL.out.trans (hb5.mono (by have := HBL.out.size; omega)), by omega⟩
                clear hb5 HAT HBL HOW
                go_wp2_with fail
                go_roundw
                case rel => exact ⟨k + 1, (u), (n + 1), by omega, rfl, rfl, by go_num, HF.out⟩
                case measure => simp [intOf]; omega
              · have hw2 : n = 0 := by omega
                subst hw2
                clear hw hwr hn1
                have HC := Lib.hid hcl; clear hcl
                have HBR := Lib.hid hrel.bel; clear hrel
                go_wp2_with fail
                refine HC.out.mono ?_
                rintro e w4 ⟨rfl, hat, hkk⟩
                clear HC
                have hbl := KeepL.bel HBR.out hkk hpa hmb
                have how := owner_any hat wf1
                change Calls _ _ _ _ (fun e w' => e = .returned (.tuple #[.int .i64 (u), .int .i64 (1)]) ∧ Below w4.heap.size w4 w') at how
                have HAT := Lib.hid hat
                have HBL := Lib.hid hbl
                have HOW := Lib.hid how
                clear hat hbl how hkk HBR
                go_wp2_with fail
                refine HOW.out.mono ?_
                rintro e w5 ⟨rfl, hb5⟩
                have HF : Hid (TRel w pa mb t u (u) (1) (k + 1) w5) := Lib.hid ⟨(HAT.out.below hb5).mono (by omega), HBL.out.trans (hb5.mono (by have := HBL.out.size; omega)), by omega⟩
                clear hb5 HAT HBL HOW
                go_wp2_with fail
                go_roundw
                case rel => exact ⟨k + 1, (u), (1), by omega, rfl, rfl, by go_num, HF.out⟩
                case measure => simp [intOf]; omega
          | false =>
            have hcl := give_any hrel.at_ (by omega) (by omega) wf1 u
            rw [(one_give who n u (by omega)).1, (one_give who n u (by omega)).2] at hcl
            by_cases hw : n = 0 ∨ who ≠ u
            · rw [if_pos hw, if_pos hw] at hcl
              by_cases hw0 : 0 < n
              · have hw2 : who ≠ u := by omega
                have hb3 : (who == u) = false := by simpa using hw2
                have hn1 : (n == 0) = false := by simp; omega
                have HC := Lib.hid hcl; clear hcl
                have HBR := Lib.hid hrel.bel; clear hrel
                go_wp2_with fail
                refine HC.out.mono ?_
                rintro e w4 ⟨rfl, hat, hkk⟩
                clear HC
                have hbl := KeepL.bel HBR.out hkk hpa hmb
                have how := owner_any hat wf1
                change Calls _ _ _ _ (fun e w' => e = .returned (.tuple #[.int .i64 (who), .int .i64 (n)]) ∧ Below w4.heap.size w4 w') at how
                have HAT := Lib.hid hat
                have HBL := Lib.hid hbl
                have HOW := Lib.hid how
                clear hat hbl how hkk HBR
                go_wp2_with fail
                refine HOW.out.mono ?_
                rintro e w5 ⟨rfl, hb5⟩
                have HF : Hid (TRel w pa mb t u (who) (n) (k + 1) w5) := Lib.hid ⟨(HAT.out.below hb5).mono (by omega), HBL.out.trans (hb5.mono (by have := HBL.out.size; omega)), by omega⟩
                clear hb5 HAT HBL HOW
                go_wp2_with fail
                go_roundw
                case rel => exact ⟨k + 1, (who), (n), by omega, rfl, rfl, by go_num, HF.out⟩
                case measure => simp [intOf]; omega
              · have hw2 : n = 0 := by omega
                have hw3 : who = 0 := by omega
                subst hw2 hw3
                clear hw
                have HC := Lib.hid hcl; clear hcl
                have HBR := Lib.hid hrel.bel; clear hrel
                go_wp2_with fail
                refine HC.out.mono ?_
                rintro e w4 ⟨rfl, hat, hkk⟩
                clear HC
                have hbl := KeepL.bel HBR.out hkk hpa hmb
                have how := owner_any hat wf1
                change Calls _ _ _ _ (fun e w' => e = .returned (.tuple #[.int .i64 (0), .int .i64 (0)]) ∧ Below w4.heap.size w4 w') at how
                have HAT := Lib.hid hat
                have HBL := Lib.hid hbl
                have HOW := Lib.hid how
                clear hat hbl how hkk HBR
                go_wp2_with fail
                refine HOW.out.mono ?_
                rintro e w5 ⟨rfl, hb5⟩
                have HF : Hid (TRel w pa mb t u (0) (0) (k + 1) w5) := Lib.hid ⟨(HAT.out.below hb5).mono (by omega), HBL.out.trans (hb5.mono (by have := HBL.out.size; omega)), by omega⟩
                clear hb5 HAT HBL HOW
                go_wp2_with fail
                go_roundw
                case rel => exact ⟨k + 1, (0), (0), by omega, rfl, rfl, by go_num, HF.out⟩
                case measure => simp [intOf]; omega
            · rw [if_neg hw, if_neg hw] at hcl
              have hw0 : 0 < n := by omega
              have hw2 : u = who := by omega
              subst hw2
              clear hw
              have hwr : IntKind.i64.wrap (n - 1) = n - 1 := by rw [IntKind.wrap_i64]; omega
              by_cases hn1 : n = 1
              · rw [if_pos hn1] at hcl
                subst hn1
                clear hwr
                have HC := Lib.hid hcl; clear hcl
                have HBR := Lib.hid hrel.bel; clear hrel
                go_wp2_with fail
                refine HC.out.mono ?_
                rintro e w4 ⟨rfl, hat, hkk⟩
                clear HC
                have hbl := KeepL.bel HBR.out hkk hpa hmb
                have how := owner_any hat wf1
                change Calls _ _ _ _ (fun e w' => e = .returned (.tuple #[.int .i64 (0), .int .i64 (0)]) ∧ Below w4.heap.size w4 w') at how
                have HAT := Lib.hid hat
                have HBL := Lib.hid hbl
                have HOW := Lib.hid how
                clear hat hbl how hkk HBR
                go_wp2_with fail
                refine HOW.out.mono ?_
                rintro e w5 ⟨rfl, hb5⟩
                have HF : Hid (TRel w pa mb t u (0) (0) (k + 1) w5) := Lib.hid ⟨(HAT.out.below hb5).mono (by omega), HBL.out.trans (hb5.mono (by have := HBL.out.size; omega)), by omega⟩
                clear hb5 HAT HBL HOW
                go_wp2_with fail
                go_roundw
                case rel => exact ⟨k + 1, (0), (0), by omega, rfl, rfl, by go_num, HF.out⟩
                case measure => simp [intOf]; omega
              · rw [if_neg hn1] at hcl
                have hn2 : ((n - 1) == 0) = false := by simp; omega
                have HC := Lib.hid hcl; clear hcl
                have HBR := Lib.hid hrel.bel; clear hrel
                go_wp2_with fail
                refine HC.out.mono ?_
                rintro e w4 ⟨rfl, hat, hkk⟩
                clear HC
                have hbl := KeepL.bel HBR.out hkk hpa hmb
                have how := owner_any hat wf1
                change Calls _ _ _ _ (fun e w' => e = .returned (.tuple #[.int .i64 (u), .int .i64 (n - 1)]) ∧ Below w4.heap.size w4 w') at how
                have HAT := Lib.hid hat
                have HBL := Lib.hid hbl
                have HOW := Lib.hid how
                clear hat hbl how hkk HBR
                go_wp2_with fail
                refine HOW.out.mono ?_
                rintro e w5 ⟨rfl, hb5⟩
                have HF : Hid (TRel w pa mb t u (u) (n - 1) (k + 1) w5) := Lib.hid ⟨(HAT.out.below hb5).mono (by omega), HBL.out.trans (hb5.mono (by have := HBL.out.size; omega)), by omega⟩
                clear hb5 HAT HBL HOW
                go_wp2_with fail
                go_roundw
                case rel => exact ⟨k + 1, (u), (n - 1), by omega, rfl, rfl, by go_num, HF.out⟩
                case measure => simp [intOf]; omega
        | false =>
          cases hp2 : (bits BinOp.and IntKind.i64 p 2 == 0) with
          | true =>
            have hcl := take_any hrel.at_ (by omega) (by omega) wf1 t
            rw [(one_take who n t (by omega)).1, (one_take who n t (by omega)).2] at hcl
            by_cases hw : 0 < n ∧ who ≠ t
            · rw [if_pos hw, if_pos hw] at hcl
              obtain ⟨hw0, hw1⟩ := hw
              have hb3 : (who != t) = true := by simpa using hw1
              have HC := Lib.hid hcl; clear hcl
              have HBR := Lib.hid hrel.bel; clear hrel
              go_wp2_with fail
              refine HC.out.mono ?_
              rintro e w4 ⟨rfl, hat, hkk⟩
              clear HC
              have hbl := KeepL.bel HBR.out hkk hpa hmb
              have how := owner_any hat wf1
              change Calls _ _ _ _ (fun e w' => e = .returned (.tuple #[.int .i64 (who), .int .i64 (n)]) ∧ Below w4.heap.size w4 w') at how
              have HAT := Lib.hid hat
              have HBL := Lib.hid hbl
              have HOW := Lib.hid how
              clear hat hbl how hkk HBR
              go_wp2_with fail
              refine HOW.out.mono ?_
              rintro e w5 ⟨rfl, hb5⟩
              have HF : Hid (TRel w pa mb t u (who) (n) (k + 1) w5) := Lib.hid ⟨(HAT.out.below hb5).mono (by omega), HBL.out.trans (hb5.mono (by have := HBL.out.size; omega)), by omega⟩
              clear hb5 HAT HBL HOW
              go_wp2_with fail
              go_roundw
              case rel => exact ⟨k + 1, (who), (n), by omega, rfl, rfl, by go_num, HF.out⟩
              case measure => simp [intOf]; omega
            · rw [if_neg hw, if_neg hw] at hcl
              have hwr : IntKind.i64.wrap (n + 1) = n + 1 := by rw [IntKind.wrap_i64]; omega
              have hn1 : ((n + 1) == 0) = false := by simp; omega
              by_cases hw0 : 0 < n
              · have hw2 : who = t := by omega
                have hb3 : (who != t) = false := by simpa using hw2
                have HC := Lib.hid hcl; clear hcl
                have HBR := Lib.hid hrel.bel; clear hrel
                go_wp2_with fail
                refine HC.out.mono ?_
                rintro e w4 ⟨rfl, hat, hkk⟩
                clear HC
                have hbl := KeepL.bel HBR.out hkk hpa hmb
                have how := owner_any hat wf1
                change Calls _ _ _ _ (fun e w' => e = .returned (.tuple #[.int .i64 (t), .int .i64 (n + 1)]) ∧ Below w4.heap.size w4 w') at how
                have HAT := Lib.hid hat
                have HBL := Lib.hid hbl
                have HOW := Lib.hid how
                clear hat hbl how hkk HBR
                go_wp2_with fail
                refine HOW.out.mono ?_
                rintro e w5 ⟨rfl, hb5⟩
                have HF : Hid (TRel w pa mb t u (t) (n + 1) (k + 1) w5) := Lib.hid ⟨(HAT.out.below hb5).mono (by omega), HBL.out.trans (hb5.mono (by have := HBL.out.size; omega)), by omega⟩
                clear hb5 HAT HBL HOW
                go_wp2_with fail
                go_roundw
                case rel => exact ⟨k + 1, (t), (n + 1), by omega, rfl, rfl, by go_num, HF.out⟩
                case measure => simp [intOf]; omega
              · have hw2 : n = 0 := by omega
                subst hw2
                clear hw hwr hn1
                have HC := Lib.hid hcl; clear hcl
                have HBR := Lib.hid hrel.bel; clear hrel
                go_wp2_with fail
                refine HC.out.mono ?_
                rintro e w4 ⟨rfl, hat, hkk⟩
                clear HC
                have hbl := KeepL.bel HBR.out hkk hpa hmb
                have how := owner_any hat wf1
                change Calls _ _ _ _ (fun e w' => e = .returned (.tuple #[.int .i64 (t), .int .i64 (1)]) ∧ Below w4.heap.size w4 w') at how
                have HAT := Lib.hid hat
                have HBL := Lib.hid hbl
                have HOW := Lib.hid how
                clear hat hbl how hkk HBR
                go_wp2_with fail
                refine HOW.out.mono ?_
                rintro e w5 ⟨rfl, hb5⟩
                have HF : Hid (TRel w pa mb t u (t) (1) (k + 1) w5) := Lib.hid ⟨(HAT.out.below hb5).mono (by omega), HBL.out.trans (hb5.mono (by have := HBL.out.size; omega)), by omega⟩
                clear hb5 HAT HBL HOW
                go_wp2_with fail
                go_roundw
                case rel => exact ⟨k + 1, (t), (1), by omega, rfl, rfl, by go_num, HF.out⟩
                case measure => simp [intOf]; omega
          | false =>
            have hcl := give_any hrel.at_ (by omega) (by omega) wf1 t
            rw [(one_give who n t (by omega)).1, (one_give who n t (by omega)).2] at hcl
            by_cases hw : n = 0 ∨ who ≠ t
            · rw [if_pos hw, if_pos hw] at hcl
              by_cases hw0 : 0 < n
              · have hw2 : who ≠ t := by omega
                have hb3 : (who == t) = false := by simpa using hw2
                have hn1 : (n == 0) = false := by simp; omega
                have HC := Lib.hid hcl; clear hcl
                have HBR := Lib.hid hrel.bel; clear hrel
                go_wp2_with fail
                refine HC.out.mono ?_
                rintro e w4 ⟨rfl, hat, hkk⟩
                clear HC
                have hbl := KeepL.bel HBR.out hkk hpa hmb
                have how := owner_any hat wf1
                change Calls _ _ _ _ (fun e w' => e = .returned (.tuple #[.int .i64 (who), .int .i64 (n)]) ∧ Below w4.heap.size w4 w') at how
                have HAT := Lib.hid hat
                have HBL := Lib.hid hbl
                have HOW := Lib.hid how
                clear hat hbl how hkk HBR
                go_wp2_with fail
                refine HOW.out.mono ?_
                rintro e w5 ⟨rfl, hb5⟩
                have HF : Hid (TRel w pa mb t u (who) (n) (k + 1) w5) := Lib.hid ⟨(HAT.out.below hb5).mono (by omega), HBL.out.trans (hb5.mono (by have := HBL.out.size; omega)), by omega⟩
                clear hb5 HAT HBL HOW
                go_wp2_with fail
                go_roundw
                case rel => exact ⟨k + 1, (who), (n), by omega, rfl, rfl, by go_num, HF.out⟩
                case measure => simp [intOf]; omega
              · have hw2 : n = 0 := by omega
                have hw3 : who = 0 := by omega
                subst hw2 hw3
                clear hw
                have HC := Lib.hid hcl; clear hcl
                have HBR := Lib.hid hrel.bel; clear hrel
                go_wp2_with fail
                refine HC.out.mono ?_
                rintro e w4 ⟨rfl, hat, hkk⟩
                clear HC
                have hbl := KeepL.bel HBR.out hkk hpa hmb
                have how := owner_any hat wf1
                change Calls _ _ _ _ (fun e w' => e = .returned (.tuple #[.int .i64 (0), .int .i64 (0)]) ∧ Below w4.heap.size w4 w') at how
                have HAT := Lib.hid hat
                have HBL := Lib.hid hbl
                have HOW := Lib.hid how
                clear hat hbl how hkk HBR
                go_wp2_with fail
                refine HOW.out.mono ?_
                rintro e w5 ⟨rfl, hb5⟩
                have HF : Hid (TRel w pa mb t u (0) (0) (k + 1) w5) := Lib.hid ⟨(HAT.out.below hb5).mono (by omega), HBL.out.trans (hb5.mono (by have := HBL.out.size; omega)), by omega⟩
                clear hb5 HAT HBL HOW
                go_wp2_with fail
                go_roundw
                case rel => exact ⟨k + 1, (0), (0), by omega, rfl, rfl, by go_num, HF.out⟩
                case measure => simp [intOf]; omega
            · rw [if_neg hw, if_neg hw] at hcl
              have hw0 : 0 < n := by omega
              have hw2 : t = who := by omega
              subst hw2
              clear hw
              have hwr : IntKind.i64.wrap (n - 1) = n - 1 := by rw [IntKind.wrap_i64]; omega
              by_cases hn1 : n = 1
              · rw [if_pos hn1] at hcl
                subst hn1
                clear hwr
                have HC := Lib.hid hcl; clear hcl
                have HBR := Lib.hid hrel.bel; clear hrel
                go_wp2_with fail
                refine HC.out.mono ?_
                rintro e w4 ⟨rfl, hat, hkk⟩
                clear HC
                have hbl := KeepL.bel HBR.out hkk hpa hmb
                have how := owner_any hat wf1
                change Calls _ _ _ _ (fun e w' => e = .returned (.tuple #[.int .i64 (0), .int .i64 (0)]) ∧ Below w4.heap.size w4 w') at how
                have HAT := Lib.hid hat
                have HBL := Lib.hid hbl
                have HOW := Lib.hid how
                clear hat hbl how hkk HBR
                go_wp2_with fail
                refine HOW.out.mono ?_
                rintro e w5 ⟨rfl, hb5⟩
                have HF : Hid (TRel w pa mb t u (0) (0) (k + 1) w5) := Lib.hid ⟨(HAT.out.below hb5).mono (by omega), HBL.out.trans (hb5.mono (by have := HBL.out.size; omega)), by omega⟩
                clear hb5 HAT HBL HOW
                go_wp2_with fail
                go_roundw
                case rel => exact ⟨k + 1, (0), (0), by omega, rfl, rfl, by go_num, HF.out⟩
                case measure => simp [intOf]; omega
              · rw [if_neg hn1] at hcl
                have hn2 : ((n - 1) == 0) = false := by simp; omega
                have HC := Lib.hid hcl; clear hcl
                have HBR := Lib.hid hrel.bel; clear hrel
                go_wp2_with fail
                refine HC.out.mono ?_
                rintro e w4 ⟨rfl, hat, hkk⟩
                clear HC
                have hbl := KeepL.bel HBR.out hkk hpa hmb
                have how := owner_any hat wf1
                change Calls _ _ _ _ (fun e w' => e = .returned (.tuple #[.int .i64 (t), .int .i64 (n - 1)]) ∧ Below w4.heap.size w4 w') at how
                have HAT := Lib.hid hat
                have HBL := Lib.hid hbl
                have HOW := Lib.hid how
                clear hat hbl how hkk HBR
                go_wp2_with fail
                refine HOW.out.mono ?_
                rintro e w5 ⟨rfl, hb5⟩
                have HF : Hid (TRel w pa mb t u (t) (n - 1) (k + 1) w5) := Lib.hid ⟨(HAT.out.below hb5).mono (by omega), HBL.out.trans (hb5.mono (by have := HBL.out.size; omega)), by omega⟩
                clear hb5 HAT HBL HOW
                go_wp2_with fail
                go_roundw
                case rel => exact ⟨k + 1, (t), (n - 1), by omega, rfl, rfl, by go_num, HF.out⟩
                case measure => simp [intOf]; omega
      · have HR := Lib.hid hrel.bel; clear hrel hnum
        go_wp2
        go_ret
        exact ⟨rfl, HR.out⟩
end Go.Proofs.Ytbfnadpkgiglmaa
