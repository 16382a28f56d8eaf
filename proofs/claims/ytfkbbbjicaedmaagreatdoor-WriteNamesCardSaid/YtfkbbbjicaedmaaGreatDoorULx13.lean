/-
  Package lex: blanks and remarks. Conditions: a lexer in memory; internal/bytealg.MaxLen holds a number.
-/
import Derived.Test.YtfkbbbjicaedmaaGreatDoorULx16
import Derived.Test.YtfkbbbjicaedmaaGreatDoorULx9
import Derived.Deep.LoopGhost
import Derived.IntWalk
namespace Go.Proofs.YtfkbbbjicaedmaaGreatDoor
open Go.RowKit Go.Shelf Go.Maps
set_option linter.unusedVariables false
set_option linter.unusedSimpArgs false
def MaxOk (w : World) : Prop := ∃ m, w.cell? ⟨4, 0, none⟩ = some (.int .i64 m)
theorem MaxOk.lt {w : World} (h : MaxOk w) : 4 < w.heap.size := by obtain ⟨m, hm⟩ := h; exact lt_cell hm
theorem MaxOk.keep {w w' : World} {X : Nat → Prop} (h : MaxOk w) (hk : Keep X w w') (hX : X 4) : MaxOk w' := by
  obtain ⟨m, hm⟩ := h
  refine ⟨m, ?_⟩
  have := hk.block 4 (lt_cell hm) hX
  unfold World.cell? at hm ⊢
  rw [this]; exact hm
theorem cut_str (w : World) (l x : List UInt8) (hl : l.length < 4294967281) (hm : MaxOk w) : Calls Tryz.prog 93 #[.string (str l), .string (str x)] w fun e w' => e = .returned (.tuple #[.string (str (Lib.cut l x).1), .string (str (Lib.cut l x).2.1), .bool (Lib.cut l x).2.2]) ∧ Keep (fun _ => True) w w' := by
  obtain ⟨m, hm⟩ := hm
  have := Any.strings_Cut Tryz.cutS (str l) (str x) m w (by rw [str_size]; exact hl) hm
  rw [str_data, str_data] at this
  exact this.mono fun e w' ⟨he, n, hn⟩ => ⟨he, by subst hn; exact (Keep.refl _ w).drewN n⟩
def SkipPost (w : World) (p : Nat) (L : List UInt8) (fr : Nat) (x : R Unit) (e : Ending) (w' : World) : Prop :=
  match x with
  | .good _ n r => e = .returned .nilIface ∧ r = L.drop n ∧ LxAt w' p L fr n ∧ Keep (· ≠ p) w w'
  | .bad c q => ∃ b, e = .returned (faultV b) ∧ FaultAt w' b c q ∧ w.heap.size ≤ b ∧ Keep (· ≠ p) w w'
def SkRel (w : World) (p : Nat) (L : List UInt8) (fr : Nat) (X : R Unit) (g : Nat) (wr : World) : Prop :=
  ∃ k, g = L.length - k ∧ LxAt wr p L fr k ∧ skipL k (L.drop k) = X ∧ Keep (· ≠ p) w wr
set_option maxRecDepth 1000000 in
set_option maxHeartbeats 8000000 in
theorem skip_any {w : World} {p : Nat} {L : List UInt8} {fr a : Nat} (h : LxAt w p L fr a) (hm : MaxOk w) (hp : p ≠ 4) : Calls Tryz.prog 81 #[.pointer (some ⟨p, 0, none⟩)] w (SkipPost w p L fr (skipL a (L.drop a))) := by
  have HR : Hid (SkRel w p L fr (skipL a (L.drop a)) (L.length - a) w) := Lib.hid ⟨a, rfl, h, rfl, Keep.refl _ w⟩
  generalize skipL a (L.drop a) = X at *
  obtain ⟨s, hsl⟩ : ∃ s, str L = s := ⟨_, rfl⟩
  have HSL := Lib.hid hsl
  clear hsl
  have HM := Lib.hid hm
  have hlen := h.len
  clear h hm
  go_enter Tryz.func81, Tryz.ntmps81
  go_wp2_with fail
  go_loopg [] (L.length - a) (fun g wr => SkRel w p L fr X g wr)
  case atStart => exact HR.out
  case round =>
    obtain ⟨k, hg, hL, hS, hK⟩ := hrel
    clear HR
    have HG := Lib.hid hg
    have HS := Lib.hid hS
    have HK := Lib.hid hK
    clear hg hS hK
    have hov := isOver_any hL
    by_cases he : k = L.length
    · rw [decide_eq_true he] at hov
      have HL := Lib.hid hL
      have HO := Lib.hid hov
      have HE := Lib.hid he
      clear hL hov he
      go_wp2_with fail
      refine HO.out.mono ?_
      rintro e w1 ⟨rfl, hk⟩
      have HL1 := Lib.hid (HL.out.keep hk trivial)
      have HK1 := Lib.hid (HK.out.trans (hk.less (fun _ _ => trivial)))
      clear hk HL HO
      go_wp2_with fail
      go_ret
      have hS := HS.out
      rw [HE.out, List.drop_length, skipL_nil] at hS
      subst hS
      have hl := HL1.out
      rw [HE.out] at hl
      exact ⟨rfl, by simp, hl, HK1.out⟩
    · rw [decide_eq_false he] at hov
      obtain ⟨c, r, hcr⟩ : ∃ c r, L.drop k = c :: r := by
        rcases hd : L.drop k with _ | ⟨c, r⟩
        · have := hL.le
          have h3 : L.length ≤ k := by simpa using hd
          omega
        · exact ⟨c, r, rfl⟩
      obtain ⟨hlt, hdr, hat⟩ := str_at hcr
      have HL := Lib.hid hL
      have HO := Lib.hid hov
      have HC := Lib.hid hcr
      have HD := Lib.hid hdr
      have HA := Lib.hid hat
      clear hL hov he hcr hdr hat
      go_wp2_with fail
      refine HO.out.mono ?_
      rintro e w1 ⟨rfl, hk⟩
      have HL1 := Lib.hid (HL.out.keep hk trivial)
      have HK1 := Lib.hid (HK.out.trans (hk.less (fun _ _ => trivial)))
      have HM1 := Lib.hid (HM.out.keep HK1.out hp.symm)
      clear hk HL HO HK
      go_wp2_with fail
      have c0 := HL1.out.c0
      have c2 := HL1.out.c2
      have hlt1 := HL1.out.blk.lt
      have hks : k < s.size := by rw [← HSL.out, str_size]; exact hlt
      have hsk : (s[k]'hks) = c := by have e := HSL.out; subst e; exact HA.out _
      have hib := fun W => isBlank_any c W
      unfold byteV at hib
      have hsz := str_size L
      have hd := drop_str L k
      have hd2 := drop_str L (k + 2)
      rw [str_size] at hd hd2
      have hL1 := HL1.out.drew
      have hLL := hL1.le
      rw [HSL.out] at c0 hsz hd hd2
      have HD1 := Lib.hid hd
      have HD2 := Lib.hid hd2
      have HSZ := Lib.hid hsz
      clear hd hd2 hsz
      have d2 : w1.drew.cell? ⟨p, 2, none⟩ = some (.int .i64 k) := c2
      have dz : w1.drew.frozen? ⟨p, 2, none⟩ = false := hL1.blk.frozen 2
      rcases hb : blankB c with _ | _
      · rw [hb] at hib
        have HB := Lib.hid hb
        have hbg := begins_any hL1 [37]
        rw [HC.out, show str [37] = (⟨#[37]⟩ : ByteArray) from rfl] at hbg
        have hrl : r.length + k + 1 = L.length := by
          have := congrArg List.length HC.out
          simp at this; omega
        have HRL := Lib.hid hrl
        by_cases h37 : c = 37
        · rw [show ([37] : List UInt8).isPrefixOf (c :: r) = true by subst h37; simp [List.isPrefixOf]] at hbg
          have HBG := Lib.hid hbg
          clear hbg hrl
          have hst := skip_line (a := k) (r := r) hb h37
          have hll := lineLen_le r
          have HST := Lib.hid hst
          have hcl := cut_line (c :: r)
          rw [show lineLen (c :: r) = 1 + lineLen r by unfold lineLen; rw [List.takeWhile_cons, h37]; simp; omega] at hcl
          have hct := fun W hW => cut_str W (c :: r) [10] (by have := congrArg List.length HC.out; simp at this ⊢; omega) hW
          rw [show str [10] = (⟨#[10]⟩ : ByteArray) from rfl] at hct
          have hts : (str (Lib.cut (c :: r) [10]).1).size = 1 + lineLen r := by rw [str_size, hcl]
          clear hst hcl hb h37
          generalize str (Lib.cut (c :: r) [10]).1 = t1 at *
          generalize str (Lib.cut (c :: r) [10]).2.1 = t2 at *
          generalize (Lib.cut (c :: r) [10]).2.2 = t3 at *
          have HT := Lib.hid hts
          have HCT := Lib.hid hct
          clear hts hct
          go_region_with (go_at_call 91; refine (hib _).mono ?_; rintro e w' ⟨rfl, rfl⟩)
          all_goals
            go_wp2_with fail
            refine HBG.out.mono ?_
            rintro e w2 ⟨rfl, hk⟩
            have HL2 := Lib.hid (HL1.out.drew.keep hk trivial)
            have HM2 := Lib.hid (HM1.out.keep (Keep.refl (fun _ => True) w1).drew trivial |>.keep hk trivial)
            have HK2 := Lib.hid (HK1.out.drew.trans (hk.less (fun _ _ => trivial)))
            clear hk HBG HK1 HM1 hL1 hib d2 dz c0 c2
            have c0 := HL2.out.c0
            rw [HSL.out] at c0
            have c2 := HL2.out.c2
            have hlt2 := HL2.out.blk.lt
            have hs := HSZ.out
            have hd := HD1.out
            rw [HC.out] at hd
            have hct := HCT.out
            generalize str (c :: r) = t0 at hct hd
            have hct := Lib.hid hct
            go_wp2_with fail
            go_region_with (go_at_call 93; (try rw [hd]); refine (hct.out _ (by exact HM2.out)).mono ?_; rintro e w3 ⟨rfl, hk3⟩; have HL3 := Lib.hid (HL2.out.drew.keep hk3 trivial); have HK3 := Lib.hid (HK2.out.drew.trans (hk3.less (fun _ _ => trivial))); clear hk3)
            all_goals
              clear c0 c2 hd hct hs
              have c2 := HL3.out.c2
              have dz := HL3.out.blk.frozen 2
              have htb : t1.size + k ≤ 16384 := by rw [HT.out]; have := HRL.out; omega
              have hlt3 := HL3.out.blk.lt
              go_wp2_with fail
              go_roundg (L.length - (k + (1 + lineLen r)))
              case measure => have := HG.out; omega
              case rel => exact ⟨k + (1 + lineLen r), rfl, HL3.out.to' (by have := HRL.out; omega) (by rw [HT.out]; omega), by rw [← List.drop_drop, ← List.drop_drop, show L.drop k = c :: r from HC.out, List.drop_one, List.tail_cons, ← HST.out, ← HC.out]; exact HS.out, HK3.out.setCell (by simp) _⟩
        · rw [show ([37] : List UInt8).isPrefixOf (c :: r) = false by simp [List.isPrefixOf]; exact fun h => h37 h.symm] at hbg
          have HBG := Lib.hid hbg
          have H37 := Lib.hid h37
          clear hbg hrl
          go_region_with (go_at_call 91; refine (hib _).mono ?_; rintro e w' ⟨rfl, rfl⟩)
          all_goals
            go_wp2_with fail
            refine HBG.out.mono ?_
            rintro e w2 ⟨rfl, hk⟩
            have HL2 := Lib.hid (HL1.out.drew.keep hk trivial)
            have HM2 := Lib.hid (HM1.out.keep (Keep.refl (fun _ => True) w1).drew trivial |>.keep hk trivial)
            have HK2 := Lib.hid (HK1.out.drew.trans (hk.less (fun _ _ => trivial)))
            clear hk HBG HK1 HM1 hL1 hib d2 dz c0 c2
            have hbg := begins_any HL2.out [47, 42]
            rw [HC.out, show str [47, 42] = (⟨#[47, 42]⟩ : ByteArray) from rfl, pre_rem] at hbg
            rcases hrm : remB (c :: r) with _ | _
            · rw [hrm] at hbg
              have HBG := Lib.hid hbg
              have HRM := Lib.hid hrm
              clear hbg hrm
              go_wp2_with fail
              refine HBG.out.mono ?_
              rintro e w3 ⟨rfl, hk⟩
              have HL3 := Lib.hid (HL2.out.keep hk trivial)
              have HK3 := Lib.hid (HK2.out.trans (hk.less (fun _ _ => trivial)))
              clear hk HBG HK2 HM2 HL2
              go_wp2_with fail
              go_ret
              have hS := HS.out
              rw [HC.out, skip_end HB.out H37.out HRM.out] at hS
              subst hS
              exact ⟨rfl, HC.out.symm, HL3.out, HK3.out⟩
            · rw [hrm] at hbg
              have HBG := Lib.hid hbg
              have HRM := Lib.hid hrm
              clear hbg hrm
              go_wp2_with fail
              refine HBG.out.mono ?_
              rintro e w3 ⟨rfl, hk⟩
              have HL3 := Lib.hid (HL2.out.keep hk trivial)
              have HM3 := Lib.hid (HM2.out.keep hk trivial)
              have HK3 := Lib.hid (HK2.out.trans (hk.less (fun _ _ => trivial)))
              clear hk HBG HK2 HM2 HL2
              have c0 := HL3.out.c0
              rw [HSL.out] at c0
              have c2 := HL3.out.c2
              have hlt3 := HL3.out.blk.lt
              have hs := HSZ.out
              have hd := HD2.out
              have hr1 : 1 ≤ r.length := by
                have := HRM.out
                rcases r with _ | ⟨d, r⟩
                · cases this
                · simp
              have hk2 : k + 2 ≤ L.length := by have := HRL.out; omega
              have HW := Lib.hid (IntWalk.i64_in ((k : Int) + 2) (by omega))
              have HN := Lib.hid (show ((k : Int) + 2).toNat = k + 2 by omega)
              have hk0 : (0 : Int) ≤ (k : Int) + 2 := by omega
              rw [show L.drop (k + 2) = r.drop 1 by rw [← List.drop_drop, HC.out]; rfl] at hd
              have hct := fun W hW => cut_str W (r.drop 1) [42, 47] (by have := HRL.out; simp; omega) hW
              rw [show str [42, 47] = (⟨#[42, 47]⟩ : ByteArray) from rfl] at hct
              obtain ⟨cr1, cr2⟩ := cut_rem (r.drop 1)
              have hts : ∀ j, remEnd (r.drop 1) = some j → (str (Lib.cut (r.drop 1) [42, 47]).1).size = j := fun j hj => by rw [str_size]; exact cr2 j hj
              have hj2 : ∀ j, remEnd (r.drop 1) = some j → j + 3 ≤ r.length := fun j hj => by have := remEnd_lt hj; simp at this; omega
              have HR1 := Lib.hid hr1
              rcases he : remEnd (r.drop 1) with _ | j
              · rw [he] at cr1
                rw [show (Lib.cut (r.drop 1) [42, 47]).2.2 = false from cr1] at hct
                have HE := Lib.hid he
                clear cr1 cr2 hts hj2 he hr1
                generalize str (r.drop 1) = t0 at *
                generalize str (Lib.cut (r.drop 1) [42, 47]).1 = t1 at *
                generalize str (Lib.cut (r.drop 1) [42, 47]).2.1 = t2 at *
                have HCT := Lib.hid hct
                clear hct
                have hw2 := HW.out
                have hn2 := HN.out
                go_wp2_with fail
                go_region_with (go_at_call 93; (try rw [hd]); refine (HCT.out _ (by exact HM3.out)).mono ?_; rintro e w4 ⟨rfl, hk3⟩; have HL4 := Lib.hid (HL3.out.drew.keep hk3 trivial); have HK4 := Lib.hid (HK3.out.drew.trans (hk3.less (fun _ _ => trivial))); clear hk3)
                all_goals
                  clear c0 c2 hd hs hw2 hn2
                  have c2 := HL4.out.c2
                  have hlt4 := HL4.out.blk.lt
                  have hn := fun W => new_any 81 k (by decide) W
                  go_wp2_with fail
                  refine (hn _).mono ?_
                  rintro e w5 ⟨rfl, hF, hk5⟩
                  have HF := Lib.hid hF
                  have HK5 := Lib.hid (HK4.out.trans (hk5.less (fun _ _ => trivial)))
                  have HS4 := Lib.hid HK4.out.size
                  clear hF hk5 hn
                  unfold faultV
                  go_wp2_with fail
                  go_ret
                  have hS := HS.out
                  rw [HC.out, skip_open HB.out H37.out HRM.out HE.out] at hS
                  subst hS
                  exact ⟨w4.heap.size, rfl, HF.out, HS4.out, HK5.out⟩
              · rw [he] at cr1
                rw [show (Lib.cut (r.drop 1) [42, 47]).2.2 = true from cr1] at hct
                have hts := hts j he
                have hj2 := hj2 j he
                have HE := Lib.hid he
                have HT := Lib.hid hts
                clear cr1 cr2 hts he hr1
                generalize str (r.drop 1) = t0 at *
                generalize str (Lib.cut (r.drop 1) [42, 47]).1 = t1 at *
                generalize str (Lib.cut (r.drop 1) [42, 47]).2.1 = t2 at *
                have HCT := Lib.hid hct
                have HJ := Lib.hid hj2
                clear hct hj2
                have hw2 := HW.out
                have hn2 := HN.out
                go_wp2_with fail
                go_region_with (go_at_call 93; (try rw [hd]); refine (HCT.out _ (by exact HM3.out)).mono ?_; rintro e w4 ⟨rfl, hk3⟩; have HL4 := Lib.hid (HL3.out.drew.keep hk3 trivial); have HK4 := Lib.hid (HK3.out.drew.trans (hk3.less (fun _ _ => trivial))); clear hk3)
                all_goals
                  clear c0 c2 hd hs hw2 hn2
                  have c2 := HL4.out.c2
                  have dz := HL4.out.blk.frozen 2
                  have htb : t1.size + k + 4 ≤ 16384 := by rw [HT.out]; have := HRL.out; have := HJ.out; omega
                  have hlt4 := HL4.out.blk.lt
                  go_wp2_with fail
                  go_roundg (L.length - (k + (j + 4)))
                  case measure => have := HG.out; omega
                  case rel => exact ⟨k + (j + 4), rfl, HL4.out.to' (by have := HRL.out; have := HJ.out; omega) (by rw [HT.out]; omega), by rw [← List.drop_drop, HC.out, show (c :: r).drop (j + 4) = r.drop (j + 3) from rfl, ← skip_rem HB.out H37.out HRM.out HE.out, ← HC.out]; exact HS.out, HK4.out.setCell (by simp) _⟩
      · rw [hb] at hib
        have HB := Lib.hid hb
        clear hb
        go_region_with (go_at_call 91; refine (hib _).mono ?_; rintro e w' ⟨rfl, rfl⟩)
        all_goals
          have HLd := Lib.hid hL1
          clear hL1
          go_wp2_with fail
          go_roundg (L.length - (k + 1))
          case measure => have := HG.out; omega
          case rel => exact ⟨k + 1, rfl, HLd.out.to' (by omega) (by omega), by rw [HD.out, ← skip_blank HB.out, ← HC.out]; exact HS.out, HK1.out.drew.setCell (by simp) _⟩
end Go.Proofs.YtfkbbbjicaedmaaGreatDoor
