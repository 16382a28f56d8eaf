/-
  Package lex: a number in digits. Conditions: a lexer in memory; strconv.ErrRange holds its sentinel.
-/
import Derived.Test.YtfkbbbjicaedmaaGreatDoorQLx21
import Derived.Test.YtfkbbbjicaedmaaGreatDoorQLx15
import Derived.Test.YtfkbbbjicaedmaaGreatDoorQLx9
import Derived.Test.YtfkbbbjicaedmaaGreatDoorQEis
import Derived.Test.YtfkbbbjicaedmaaGreatDoorLayp
import Derived.Lib.AtoiErrMem
namespace Go.Proofs.YtfkbbbjicaedmaaGreatDoor
open Go.RowKit Go.Shelf Go.Maps
set_option linter.unusedVariables false
set_option linter.unusedSimpArgs false
def RangeOk (w : World) (b : Addr) : Prop := w.cell? ⟨3, 0, none⟩ = some (.iface 167 (.pointer (some b)))
theorem RangeOk.keep {w w' : World} {b : Addr} {X : Nat → Prop} (h : RangeOk w b) (hk : Keep X w w') (hX : X 3) : RangeOk w' b := by
  have := hk.block _ (lt_cell h) hX
  unfold RangeOk World.cell? at *
  rw [this]; exact h
theorem digLen_cons (c : UInt8) (r : List UInt8) : digLen (c :: r) = if digB c then 1 + digLen r else 0 := by
  unfold digLen
  rw [List.takeWhile_cons]
  split
  · simp; omega
  · rfl
theorem parse_ok {l : List UInt8} (hne : l ≠ []) (hd : ∀ c ∈ l, digB c = true) (hl : l.length ≤ 16384) (hv : ¬ 9223372036854775807 < digVal l) (w : World) : Calls Tryz.prog 113 #[.string (str l), .int .i64 10, .int .i64 64] w fun e w' => e = .returned (.tuple #[.int .i64 (digVal l : Int), .nilIface]) ∧ Keep (fun _ => True) w w' := by
  have h := Any.strconv_ParseInt_10_at64_ok Tryz.parI (str l) (by rw [str_size]; omega) (digVal l : Int) (by rw [str_data, parse_digits hne hd, if_neg hv]) w
  refine h.mono ?_
  rintro e w' ⟨he, h | ⟨t, h⟩⟩
  · subst h; exact ⟨he, Keep.refl _ _⟩
  · subst h; exact ⟨he, keep_below (Lib.bytesWorld_below w _ t)⟩
theorem parse_range {l : List UInt8} (hne : l ≠ []) (hd : ∀ c ∈ l, digB c = true) (hl : l.length ≤ 16384) (hv : 9223372036854775807 < digVal l) (w : World) (b : Addr) (hr : RangeOk w b) : Calls Tryz.prog 113 #[.string (str l), .int .i64 10, .int .i64 64] w fun e w' => ∃ (x : Int) (N : Nat), e = .returned (.tuple #[.int .i64 x, .iface 148 (.pointer (some ⟨N, 0, none⟩))]) ∧ w'.cell? ⟨N, 2, none⟩ = some (.iface 167 (.pointer (some b))) ∧ Keep (fun _ => True) w w' := by
  have h := Any.strconv_ParseInt_10_at64_range Tryz.parI (str l) (by rw [str_size]; omega) (by rw [str_data, parse_digits hne hd, if_pos hv]) _ w hr (Or.inr ⟨_, _, rfl⟩)
  refine h.mono ?_
  rintro e w' ⟨N, he, _, hc, hb⟩
  exact ⟨_, N, he, (show Blk w' N _ _ from hc).cell 2, keep_below hb⟩
set_option maxRecDepth 1000000 in
set_option maxHeartbeats 8000000 in
theorem digits_any {w : World} {p : Nat} {L : List UInt8} {a : Nat} (h : LxAt w p L a a) {b : Addr} (hro : RangeOk w b) (hpg : p ≠ 3) (hpos : 1 ≤ digLen (L.drop a)) : Calls Tryz.prog 99 #[.pointer (some ⟨p, 0, none⟩)] w
    (TokPost w p L a (digitsL a (L.drop a))) := by
  have hp := h.blk.lt
  have h1 := h.keep ((Keep.refl (fun _ => True) w).alloc (.cells zCells 75)) trivial
  have HB := Lib.hid (Blk.new w 75 zCells)
  have HR : Hid (LtRel digLen w p L a (L.length - a) (w.alloc (.cells zCells 75))) := Lib.hid ⟨a, rfl, Nat.le_refl _, h1, by omega, Keep.refl _ _⟩
  have HPOS := Lib.hid hpos
  have HRO0 := Lib.hid (hro.keep ((Keep.refl (fun _ => True) w).alloc (.cells zCells 75)) trivial)
  have hpg' : 3 ≠ p := fun e => hpg e.symm
  clear hpos hro
  obtain ⟨s, hsl⟩ : ∃ s, str L = s := ⟨_, rfl⟩
  have HSL := Lib.hid hsl
  have hlen := h.len
  obtain ⟨X, hX⟩ : ∃ X, digitsL a (L.drop a) = X := ⟨_, rfl⟩
  rw [hX]
  have HX := Lib.hid hX
  clear hsl h h1 hX
  go_enter Tryz.func99, Tryz.ntmps99
  go_wp2_with fail
  go_loopg [] (L.length - a) (fun g wr => LtRel digLen w p L a g wr)
  case atStart => exact HR.out
  case round =>
    obtain ⟨k, hg, hak, hL, hF, hK⟩ := hrel
    clear HR
    have HG := Lib.hid hg
    have HF := Lib.hid hF
    have HK := Lib.hid hK
    have HL := Lib.hid hL
    have HAK := Lib.hid hak
    have hkl := hL.le
    have HRO := Lib.hid (HRO0.out.keep hK hpg')
    clear hg hF hK hak
    have hov := fun n => isOver_q (hL.drewN n)
    have c0 := hL.c0
    rw [HSL.out] at c0
    have c2 := hL.c2
    have dz := hL.blk.frozen 2
    have hlt0 := hL.blk.lt
    clear hL
    obtain ⟨dk, hdk⟩ : ∃ dk, L.drop k = dk := ⟨_, rfl⟩
    rcases dk with _ | ⟨c, r⟩
    · have hov2 : ∀ n, Calls Tryz.prog 82 #[.pointer (some ⟨p, 0, none⟩)] (wr.drewN n) fun e w' => e = .returned (.bool true) ∧ ∃ m, w' = (wr.drewN n).drewN m := by
        intro n; have := hov n; rwa [decide_eq_true (by have h3 : L.length ≤ k := (by simpa using hdk); omega)] at this
      have HOV := Lib.hid hov2
      have HZ : Hid (digLen (L.drop a) = k - a) := Lib.hid (by rw [HF.out, hdk]; rfl)
      clear hov hov2 hdk
      have hz := HZ.out
      have hkl2 : 1 ≤ k - a := by rw [← hz]; exact HPOS.out
      have htl : ((L.drop a).take (k - a)).length = k - a := by rw [List.length_take, List.length_drop]; omega
      have hne : (L.drop a).take (k - a) ≠ [] := by intro h; rw [h] at htl; simp at htl; omega
      have hdg : ∀ c ∈ (L.drop a).take (k - a), digB c = true := by rw [← hz]; exact dig_take _
      have hta := take_str L a k
      rw [HSL.out] at hta
      have c1 := HL.out.c1
      have hs := str_size L
      rw [HSL.out] at hs
      have haki : (a : Int) ≤ k := by have := HAK.out; omega
      have hXX : digitsL a (L.drop a) = if 9223372036854775807 < digVal ((L.drop a).take (k - a)) then R.bad 83 a else R.good ⟨3, (L.drop a).take (k - a), digVal ((L.drop a).take (k - a)), false⟩ k (L.drop k) := by
        unfold digitsL
        rw [hz, List.drop_drop, show a + (k - a) = k by have := HAK.out; omega]
      rw [HX.out] at hXX
      have hpo := fun hv W => parse_ok hne hdg (by omega) hv W
      have hpr := fun hv W b hr => parse_range hne hdg (by omega) hv W b hr
      have hrd := fun n => read_any (HL.out.drewN n) HAK.out
      obtain ⟨l, hl⟩ : ∃ l, (L.drop a).take (k - a) = l := ⟨_, rfl⟩
      rw [hl] at hXX hpo hpr hta
      have HRD := Lib.hid hl
      clear hz hkl2 htl hne hdg hl hrd
      generalize str l = sl at hpo hpr hta
      by_cases hv : 9223372036854775807 < digVal l
      · rw [if_pos hv] at hXX
        have HXX := Lib.hid hXX
        have HPR := Lib.hid (hpr hv)
        have HW := Lib.hid (And.intro hs hta)
        clear hXX hpr hpo hv hs hta
        go_wp2_with fail
        go_quiet ((go_at_call 82; exact Calls.quiet_of (HOV.out _)))
        obtain ⟨hs, hta⟩ := HW.out
        have c0' : (wr.drewN nq).cell? ⟨p, 0, none⟩ = some (.string s) := c0
        have c1' : (wr.drewN nq).cell? ⟨p, 1, none⟩ = some (.int .i64 a) := c1
        have c2' : (wr.drewN nq).cell? ⟨p, 2, none⟩ = some (.int .i64 k) := c2
        have HR2 := Lib.hid (show RangeOk (wr.drewN nq).drew b from HRO.out)
        go_wp2_with fail
        go_region_with (go_at_call 113; (try rw [hta]); refine (HPR.out _ b (by exact HR2.out)).mono ?_; rintro e w2 ⟨x, N, rfl, hc2, hk2⟩; have HL2 := Lib.hid ((HL.out.drewN nq).drew.keep hk2 trivial); have HK2 := Lib.hid ((HK.out.drewN nq).drew.trans (hk2.less (Y := (· ≠ p)) (fun _ _ => trivial))); have HR3 := Lib.hid (HR2.out.keep hk2 trivial); have HC2 := Lib.hid hc2; clear hk2 hc2)
        all_goals
          clear c0 c1 c2 c0' c1' c2' dz hs hta
          have hg0 : w2.cell? ⟨3, 0, none⟩ = some (.iface 167 (.pointer (some b))) := HR3.out
          have hgl := lt_cell hg0
          go_wp2_with fail
          refine (is_num N b w2 HC2.out).mono ?_
          rintro e w3 ⟨rfl, rfl⟩
          have c1 := HL2.out.c1
          have hlt2 := HL2.out.blk.lt
          have hn := fun W => new_any 83 a (by decide) W
          go_wp2_with fail
          refine (hn _).mono ?_
          rintro e w4 ⟨rfl, hF, hk4⟩
          have HF := Lib.hid hF
          have HK4 := Lib.hid (HK2.out.trans (hk4.less (Y := (· ≠ p)) (fun _ _ => trivial)))
          have hb := HB.out.keep HK4.out (by omega)
          have HZ2 := Lib.hid HK2.out.size
          clear hF hk4 hn c1 hg0
          unfold faultV
          obtain ⟨b0, b1, b2, b3, b4, b5, z0, z1, z2, z3, z4, z5, hltb⟩ := hb.six
          simp only [zCells, List.getElem?_toArray, List.getElem?_cons_zero, List.getElem?_cons_succ] at b0 b1 b2 b3 b4 b5
          have Q := Lib.hid (hb.set6 (.int .i64 0) (.string ⟨#[]⟩) (.int .i64 0) (.int .i64 0) (.bool false) (.bool false))
          have HS := Lib.hid (keep6 w4 w.heap.size (.int .i64 0) (.string ⟨#[]⟩) (.int .i64 0) (.int .i64 0) (.bool false) (.bool false))
          clear hb
          go_wp2_with fail
          obtain ⟨q0, q1, q2, q3, q4, q5, _⟩ := Q.out
          simp at q0 q1 q2 q3 q4 q5
          refine bodyPost_ret (v := .tuple #[.agg #[.int .i64 0, .string ⟨#[]⟩, .int .i64 0, .int .i64 0, .bool false, .bool false], faultV w3.heap.size]) (by simp [results, Tryz.results99, go_sem, faultV, q0, q1, q2, q3, q4, q5]) rfl ?_
          refine ⟨_, _, rfl, ?_⟩
          rw [HXX.out]
          have hsz : (w.alloc (.cells zCells 75)).heap.size = w.heap.size + 1 := by simp
          exact TokFacts.bad HF.out (by have := HZ2.out; omega) (by have := HZ2.out; omega) ((Keep.refl (· ≠ p) w).alloc _ |>.trans HK4.out) HS.out (Nat.le_refl _)
      · rw [if_neg hv] at hXX
        have HXX := Lib.hid hXX
        have HPO := Lib.hid (hpo hv)
        have HW := Lib.hid (And.intro hs hta)
        obtain ⟨n, hn⟩ : ∃ n : Int, (digVal l : Int) = n := ⟨_, rfl⟩
        rw [hn] at HPO
        have HN := Lib.hid hn
        clear hXX hpr hpo hv hs hta hn
        go_wp2_with fail
        go_quiet ((go_at_call 82; exact Calls.quiet_of (HOV.out _)))
        obtain ⟨hs, hta⟩ := HW.out
        have c0' : (wr.drewN nq).cell? ⟨p, 0, none⟩ = some (.string s) := c0
        have c1' : (wr.drewN nq).cell? ⟨p, 1, none⟩ = some (.int .i64 a) := c1
        have c2' : (wr.drewN nq).cell? ⟨p, 2, none⟩ = some (.int .i64 k) := c2
        have HR2 := Lib.hid (show RangeOk (wr.drewN nq).drew b from HRO.out)
        go_wp2_with fail
        go_region_with (go_at_call 113; (try rw [hta]); refine (HPO.out _).mono ?_; rintro e w2 ⟨rfl, hk2⟩; have HL2 := Lib.hid ((HL.out.drewN nq).drew.keep hk2 trivial); have HK2 := Lib.hid ((HK.out.drewN nq).drew.trans (hk2.less (Y := (· ≠ p)) (fun _ _ => trivial))); have HR3 := Lib.hid (HR2.out.keep hk2 trivial); clear hk2)
        all_goals
          clear c0 c1 c2 c0' c1' c2' dz hs hta
          have hg0 : w2.cell? ⟨3, 0, none⟩ = some (.iface 167 (.pointer (some b))) := HR3.out
          have hgl := lt_cell hg0
          go_wp2_with fail
          refine (is_nil b w2).mono ?_
          rintro e w3 ⟨rfl, rfl⟩
          clear hg0
          have hrd := read_any HL2.out HAK.out
          rw [HRD.out] at hrd
          have HRR := Lib.hid hrd
          clear hrd
          go_wp2_with fail
          refine HRR.out.mono ?_
          rintro e w4 ⟨rfl, hk4⟩
          have HK4 := Lib.hid (HK2.out.trans (hk4.less (Y := (· ≠ p)) (fun _ _ => trivial)))
          have HL4 := Lib.hid (HL2.out.keep hk4 trivial)
          have hb := HB.out.keep HK4.out (by omega)
          obtain ⟨t1, ht1⟩ : ∃ t1, str l = t1 := ⟨_, rfl⟩
          rw [ht1]
          have HT := Lib.hid ht1
          clear hk4 ht1
          obtain ⟨b0, b1, b2, b3, b4, b5, z0, z1, z2, z3, z4, z5, hltb⟩ := hb.six
          simp only [zCells, List.getElem?_toArray, List.getElem?_cons_zero, List.getElem?_cons_succ] at b0 b1 b2 b3 b4 b5
          have Q := Lib.hid (hb.set6 (.int .i64 3) (.string t1) (.int .i64 n) (.int .i64 0) (.bool false) (.bool false))
          have HS := Lib.hid (keep6 w4 w.heap.size (.int .i64 3) (.string t1) (.int .i64 n) (.int .i64 0) (.bool false) (.bool false))
          clear hb
          go_wp2_with fail
          obtain ⟨q0, q1, q2, q3, q4, q5, _⟩ := Q.out
          simp at q0 q1 q2 q3 q4 q5
          refine bodyPost_ret (v := .tuple #[.agg #[.int .i64 3, .string t1, .int .i64 n, .int .i64 0, .bool false, .bool false], .nilIface]) (by simp [results, Tryz.results99, go_sem, faultV, q0, q1, q2, q3, q4, q5]) rfl ?_
          refine ⟨_, _, rfl, ?_⟩
          rw [HXX.out]
          refine ⟨?_, rfl, rfl, HL4.out.keep HS.out (by omega), ((Keep.refl (· ≠ p) w).alloc _ |>.trans HK4.out).beyond HS.out (Nat.le_refl _)⟩
          rw [← HT.out, ← HN.out]; rfl
    · obtain ⟨hlt, hdr, hat⟩ := str_at hdk
      have hks : k < s.size := by rw [← HSL.out, str_size]; exact hlt
      have hsk : (s[k]'hks) = c := by have e := HSL.out; subst e; exact hat _
      have hil := fun W => isDigit_any c W
      unfold byteV at hil
      have hov2 : ∀ n, Calls Tryz.prog 82 #[.pointer (some ⟨p, 0, none⟩)] (wr.drewN n) fun e w' => e = .returned (.bool false) ∧ ∃ m, w' = (wr.drewN n).drewN m := by
        intro n; have := hov n; rwa [decide_eq_false (by omega)] at this
      have HOV := Lib.hid hov2
      have HC := Lib.hid hdk
      have HD := Lib.hid hdr
      rcases hq : digB c with _ | _
      · rw [hq] at hil
        have HZ : Hid (digLen (L.drop a) = k - a) := Lib.hid (by rw [HF.out, hdk, digLen_cons, hq]; rfl)
        clear hov hov2 hdk hdr hat hq
        have hz := HZ.out
        have hkl2 : 1 ≤ k - a := by rw [← hz]; exact HPOS.out
        have htl : ((L.drop a).take (k - a)).length = k - a := by rw [List.length_take, List.length_drop]; omega
        have hne : (L.drop a).take (k - a) ≠ [] := by intro h; rw [h] at htl; simp at htl; omega
        have hdg : ∀ c ∈ (L.drop a).take (k - a), digB c = true := by rw [← hz]; exact dig_take _
        have hta := take_str L a k
        rw [HSL.out] at hta
        have c1 := HL.out.c1
        have hs := str_size L
        rw [HSL.out] at hs
        have haki : (a : Int) ≤ k := by have := HAK.out; omega
        have hXX : digitsL a (L.drop a) = if 9223372036854775807 < digVal ((L.drop a).take (k - a)) then R.bad 83 a else R.good ⟨3, (L.drop a).take (k - a), digVal ((L.drop a).take (k - a)), false⟩ k (L.drop k) := by
          unfold digitsL
          rw [hz, List.drop_drop, show a + (k - a) = k by have := HAK.out; omega]
        rw [HX.out] at hXX
        have hpo := fun hv W => parse_ok hne hdg (by omega) hv W
        have hpr := fun hv W b hr => parse_range hne hdg (by omega) hv W b hr
        have hrd := fun n => read_any (HL.out.drewN n) HAK.out
        obtain ⟨l, hl⟩ : ∃ l, (L.drop a).take (k - a) = l := ⟨_, rfl⟩
        rw [hl] at hXX hpo hpr hta
        have HRD := Lib.hid hl
        clear hz hkl2 htl hne hdg hl hrd
        generalize str l = sl at hpo hpr hta
        by_cases hv : 9223372036854775807 < digVal l
        · rw [if_pos hv] at hXX
          have HXX := Lib.hid hXX
          have HPR := Lib.hid (hpr hv)
          have HW := Lib.hid (And.intro hs hta)
          clear hXX hpr hpo hv hs hta
          go_wp2_with fail
          go_quiet ((first | (go_at_call 82; exact Calls.quiet_of (HOV.out _)) | (go_at_call 98; exact Calls.quiet_of_same (hil _))))
          obtain ⟨hs, hta⟩ := HW.out
          have c0' : (wr.drewN nq).cell? ⟨p, 0, none⟩ = some (.string s) := c0
          have c1' : (wr.drewN nq).cell? ⟨p, 1, none⟩ = some (.int .i64 a) := c1
          have c2' : (wr.drewN nq).cell? ⟨p, 2, none⟩ = some (.int .i64 k) := c2
          have HR2 := Lib.hid (show RangeOk (wr.drewN nq).drew b from HRO.out)
          go_wp2_with fail
          go_region_with (go_at_call 113; (try rw [hta]); refine (HPR.out _ b (by exact HR2.out)).mono ?_; rintro e w2 ⟨x, N, rfl, hc2, hk2⟩; have HL2 := Lib.hid ((HL.out.drewN nq).drew.keep hk2 trivial); have HK2 := Lib.hid ((HK.out.drewN nq).drew.trans (hk2.less (Y := (· ≠ p)) (fun _ _ => trivial))); have HR3 := Lib.hid (HR2.out.keep hk2 trivial); have HC2 := Lib.hid hc2; clear hk2 hc2)
          all_goals
            clear c0 c1 c2 c0' c1' c2' dz hs hta
            have hg0 : w2.cell? ⟨3, 0, none⟩ = some (.iface 167 (.pointer (some b))) := HR3.out
            have hgl := lt_cell hg0
            go_wp2_with fail
            refine (is_num N b w2 HC2.out).mono ?_
            rintro e w3 ⟨rfl, rfl⟩
            have c1 := HL2.out.c1
            have hlt2 := HL2.out.blk.lt
            have hn := fun W => new_any 83 a (by decide) W
            go_wp2_with fail
            refine (hn _).mono ?_
            rintro e w4 ⟨rfl, hF, hk4⟩
            have HF := Lib.hid hF
            have HK4 := Lib.hid (HK2.out.trans (hk4.less (Y := (· ≠ p)) (fun _ _ => trivial)))
            have hb := HB.out.keep HK4.out (by omega)
            have HZ2 := Lib.hid HK2.out.size
            clear hF hk4 hn c1 hg0
            unfold faultV
            obtain ⟨b0, b1, b2, b3, b4, b5, z0, z1, z2, z3, z4, z5, hltb⟩ := hb.six
            simp only [zCells, List.getElem?_toArray, List.getElem?_cons_zero, List.getElem?_cons_succ] at b0 b1 b2 b3 b4 b5
            have Q := Lib.hid (hb.set6 (.int .i64 0) (.string ⟨#[]⟩) (.int .i64 0) (.int .i64 0) (.bool false) (.bool false))
            have HS := Lib.hid (keep6 w4 w.heap.size (.int .i64 0) (.string ⟨#[]⟩) (.int .i64 0) (.int .i64 0) (.bool false) (.bool false))
            clear hb
            go_wp2_with fail
            obtain ⟨q0, q1, q2, q3, q4, q5, _⟩ := Q.out
            simp at q0 q1 q2 q3 q4 q5
            refine bodyPost_ret (v := .tuple #[.agg #[.int .i64 0, .string ⟨#[]⟩, .int .i64 0, .int .i64 0, .bool false, .bool false], faultV w3.heap.size]) (by simp [results, Tryz.results99, go_sem, faultV, q0, q1, q2, q3, q4, q5]) rfl ?_
            refine ⟨_, _, rfl, ?_⟩
            rw [HXX.out]
            have hsz : (w.alloc (.cells zCells 75)).heap.size = w.heap.size + 1 := by simp
            exact TokFacts.bad HF.out (by have := HZ2.out; omega) (by have := HZ2.out; omega) ((Keep.refl (· ≠ p) w).alloc _ |>.trans HK4.out) HS.out (Nat.le_refl _)
        · rw [if_neg hv] at hXX
          have HXX := Lib.hid hXX
          have HPO := Lib.hid (hpo hv)
          have HW := Lib.hid (And.intro hs hta)
          obtain ⟨n, hn⟩ : ∃ n : Int, (digVal l : Int) = n := ⟨_, rfl⟩
          rw [hn] at HPO
          have HN := Lib.hid hn
          clear hXX hpr hpo hv hs hta hn
          go_wp2_with fail
          go_quiet ((first | (go_at_call 82; exact Calls.quiet_of (HOV.out _)) | (go_at_call 98; exact Calls.quiet_of_same (hil _))))
          obtain ⟨hs, hta⟩ := HW.out
          have c0' : (wr.drewN nq).cell? ⟨p, 0, none⟩ = some (.string s) := c0
          have c1' : (wr.drewN nq).cell? ⟨p, 1, none⟩ = some (.int .i64 a) := c1
          have c2' : (wr.drewN nq).cell? ⟨p, 2, none⟩ = some (.int .i64 k) := c2
          have HR2 := Lib.hid (show RangeOk (wr.drewN nq).drew b from HRO.out)
          go_wp2_with fail
          go_region_with (go_at_call 113; (try rw [hta]); refine (HPO.out _).mono ?_; rintro e w2 ⟨rfl, hk2⟩; have HL2 := Lib.hid ((HL.out.drewN nq).drew.keep hk2 trivial); have HK2 := Lib.hid ((HK.out.drewN nq).drew.trans (hk2.less (Y := (· ≠ p)) (fun _ _ => trivial))); have HR3 := Lib.hid (HR2.out.keep hk2 trivial); clear hk2)
          all_goals
            clear c0 c1 c2 c0' c1' c2' dz hs hta
            have hg0 : w2.cell? ⟨3, 0, none⟩ = some (.iface 167 (.pointer (some b))) := HR3.out
            have hgl := lt_cell hg0
            go_wp2_with fail
            refine (is_nil b w2).mono ?_
            rintro e w3 ⟨rfl, rfl⟩
            clear hg0
            have hrd := read_any HL2.out HAK.out
            rw [HRD.out] at hrd
            have HRR := Lib.hid hrd
            clear hrd
            go_wp2_with fail
            refine HRR.out.mono ?_
            rintro e w4 ⟨rfl, hk4⟩
            have HK4 := Lib.hid (HK2.out.trans (hk4.less (Y := (· ≠ p)) (fun _ _ => trivial)))
            have HL4 := Lib.hid (HL2.out.keep hk4 trivial)
            have hb := HB.out.keep HK4.out (by omega)
            obtain ⟨t1, ht1⟩ : ∃ t1, str l = t1 := ⟨_, rfl⟩
            rw [ht1]
            have HT := Lib.hid ht1
            clear hk4 ht1
            obtain ⟨b0, b1, b2, b3, b4, b5, z0, z1, z2, z3, z4, z5, hltb⟩ := hb.six
            simp only [zCells, List.getElem?_toArray, List.getElem?_cons_zero, List.getElem?_cons_succ] at b0 b1 b2 b3 b4 b5
            have Q := Lib.hid (hb.set6 (.int .i64 3) (.string t1) (.int .i64 n) (.int .i64 0) (.bool false) (.bool false))
            have HS := Lib.hid (keep6 w4 w.heap.size (.int .i64 3) (.string t1) (.int .i64 n) (.int .i64 0) (.bool false) (.bool false))
            clear hb
            go_wp2_with fail
            obtain ⟨q0, q1, q2, q3, q4, q5, _⟩ := Q.out
            simp at q0 q1 q2 q3 q4 q5
            refine bodyPost_ret (v := .tuple #[.agg #[.int .i64 3, .string t1, .int .i64 n, .int .i64 0, .bool false, .bool false], .nilIface]) (by simp [results, Tryz.results99, go_sem, faultV, q0, q1, q2, q3, q4, q5]) rfl ?_
            refine ⟨_, _, rfl, ?_⟩
            rw [HXX.out]
            refine ⟨?_, rfl, rfl, HL4.out.keep HS.out (by omega), ((Keep.refl (· ≠ p) w).alloc _ |>.trans HK4.out).beyond HS.out (Nat.le_refl _)⟩
            rw [← HT.out, ← HN.out]; rfl
      · rw [hq] at hil
        have HQ := Lib.hid hq
        clear hov hov2 hdk hdr hat hq
        go_wp2_with fail
        go_quiet ((first | (go_at_call 82; exact Calls.quiet_of (HOV.out _)) | (go_at_call 98; exact Calls.quiet_of_same (hil _))))
        go_wp2_with fail
        go_roundg (L.length - (k + 1))
        case measure => have := HG.out; omega
        case rel => exact ⟨k + 1, rfl, by have := HAK.out; omega, (HL.out.drewN nq).to' (by omega) (by omega), by rw [HF.out, HC.out, HD.out, digLen_cons, if_pos (HQ.out)]; have := HAK.out; omega, (HK.out.drewN nq).setCell (by simp) _⟩
end Go.Proofs.YtfkbbbjicaedmaaGreatDoor
