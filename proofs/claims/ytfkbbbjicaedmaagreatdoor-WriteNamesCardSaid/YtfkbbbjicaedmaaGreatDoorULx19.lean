/-
  Package lex: what stands for one byte in quotes. Conditions: a lexer in memory.
-/
import Derived.Test.YtfkbbbjicaedmaaGreatDoorULx14
namespace Go.Proofs.YtfkbbbjicaedmaaGreatDoor
open Go.RowKit Go.Shelf Go.Maps
set_option linter.unusedVariables false
set_option linter.unusedSimpArgs false
theorem inQ_nil : inQ [] = .over := rfl
theorem inQ_cons (c : UInt8) (r : List UInt8) : inQ (c :: r) = if c == 92 then escL r else if c == 39 then (if r.head? == some 39 then .byte 39 2 else .close) else if decide (32 ≤ c) && decide (c ≤ 126) then .byte c 1 else .bad 80 := rfl
theorem pre_quotes (r : List UInt8) : ([39, 39] : List UInt8).isPrefixOf (39 :: r) = (r.head? == some 39) := by
  rcases r with _ | ⟨d, r⟩
  · rfl
  · simp only [List.isPrefixOf, Bool.and_true, List.head?_cons]
    rw [Bool.eq_iff_iff]
    simp
    exact ⟨fun h => h.symm, fun h => h.symm⟩
theorem le_int (x c : UInt8) : decide (x ≤ c) = decide ((x.toNat : Int) ≤ (c.toNat : Int)) := by
  rw [Bool.eq_iff_iff]; simp [UInt8.le_iff_toNat_le]
set_option maxRecDepth 1000000 in
set_option maxHeartbeats 8000000 in
theorem inQuotes_any {w : World} {p : Nat} {L : List UInt8} {fr a : Nat} (h : LxAt w p L fr a) : Calls Tryz.prog 112 #[.pointer (some ⟨p, 0, none⟩)] w (InqPost w p L fr a (inQ (L.drop a))) := by
  have HLX := Lib.hid h
  have HK := Lib.hid (Keep.refl (· ≠ p) w)
  have hov := isOver_q h
  have hlen := h.len
  have hle := h.le
  rcases hdk : L.drop a with _ | ⟨c, r⟩
  · rw [decide_eq_true (by have h3 : L.length ≤ a := (by simpa using hdk); omega)] at hov
    have HOV := Lib.hid hov
    have hnf := fun W => new_any 81 fr (by decide) W
    have HN := Lib.hid hnf
    clear hnf hov h hdk
    rw [inQ_nil]
    go_enter Tryz.func112, Tryz.ntmps112
    go_wp2_with fail
    refine HOV.out.mono ?_
    rintro e w1 ⟨rfl, m, rfl⟩
    have c1 : (w.drewN m).cell? ⟨p, 1, none⟩ = some (.int .i64 fr) := HLX.out.c1
    have hlt0 := HLX.out.blk.lt
    go_wp2_with fail
    refine (HN.out _).mono ?_
    rintro e w1 ⟨rfl, hF, hk⟩
    have HF := Lib.hid hF
    have HK1 := Lib.hid ((HK.out.drewN m).trans (hk.less (Y := (· ≠ p)) (fun _ _ => trivial)))
    clear hF hk
    unfold faultV
    go_wp2_with fail
    go_ret3
    exact ⟨w.heap.size, rfl, HF.out, Nat.le_refl _, HK1.out⟩
  · obtain ⟨hlt, hdr, hat⟩ := str_at hdk
    rw [decide_eq_false (by omega)] at hov
    have HOV := Lib.hid hov
    have hrl : r.length + a + 1 = L.length := by
      have := congrArg List.length hdk
      simp at this; omega
    obtain ⟨s, hsl⟩ : ∃ s, str L = s := ⟨_, rfl⟩
    have hks : a < s.size := by rw [← hsl, str_size]; exact hlt
    have hsk : (s[a]'hks) = c := by subst hsl; exact hat _
    have c0 := HLX.out.c0
    rw [hsl] at c0
    have c2 := HLX.out.c2
    have dz := HLX.out.blk.frozen 2
    have hlt0 := HLX.out.blk.lt
    have hesc := fun m (hc : L.drop a = 92 :: r) => escape_any (HLX.out.drewN m) hc
    have hbg := fun m => begins_q (HLX.out.drewN m) [39, 39]
    rw [hdk, show str [39, 39] = (⟨#[39, 39]⟩ : ByteArray) from rfl] at hbg
    have h92 := u8_eq c 92
    have h39 := u8_eq c 39
    rw [show (((92 : UInt8).toNat : Nat) : Int) = 92 from rfl] at h92
    rw [show (((39 : UInt8).toNat : Nat) : Int) = 39 from rfl] at h39
    have h32 := le_int 32 c
    have h126 := le_int c 126
    rw [show (((32 : UInt8).toNat : Nat) : Int) = 32 from rfl] at h32
    rw [show (((126 : UInt8).toNat : Nat) : Int) = 126 from rfl] at h126
    rw [inQ_cons]
    have HE := Lib.hid hesc
    have HB := Lib.hid hbg
    have HC := Lib.hid hdk
    have HSK := Lib.hid hsk
    have hnf := fun W => new_any 80 a (by decide) W
    have HN := Lib.hid hnf
    clear hesc hbg hdk hat hdr h hov hsl hsk hnf
    rcases e92 : c == 92 with _ | _
    rotate_left
    · rw [e92] at h92
      have hc : c = 92 := eq_of_beq e92
      simp only [if_true]
      have hsk := HSK.out
      go_enter Tryz.func112, Tryz.ntmps112
      go_wp2_with fail
      refine HOV.out.mono ?_
      rintro e w1 ⟨rfl, m, rfl⟩
      have c0 : (w.drewN m).cell? ⟨p, 0, none⟩ = some (.string s) := c0
      have c2 : (w.drewN m).cell? ⟨p, 2, none⟩ = some (.int .i64 a) := c2
      go_wp2_with fail
      go_region
      clear hsk
      have c2' : (w.drewN (m + 1)).cell? ⟨p, 2, none⟩ = some (.int .i64 a) := c2
      have dz' : (w.drewN (m + 1)).frozen? ⟨p, 2, none⟩ = false := dz
      go_wp2_with fail
      refine (HE.out (m + 1) (by rw [HC.out, hc])).mono ?_
      rintro e w1 hq
      have hq := InqPost.from (HK.out.drewN (m + 1)) hq
      obtain ⟨v0, v1, v2, rfl⟩ := hq.is
      have HQ := Lib.hid hq
      clear hq
      go_wp2_with fail
      go_ret3
      exact HQ.out
    · rw [e92] at h92
      simp only [Bool.false_eq_true, if_false]
      rcases e39 : c == 39 with _ | _
      rotate_left
      · rw [e39] at h39
        have hc : c = 39 := eq_of_beq e39
        have HCC := Lib.hid hc
        have hb2 := HB.out
        rw [hc, pre_quotes] at hb2
        simp only [if_true]
        rcases hh : (r.head? == some 39) with _ | _
        · rw [hh] at hb2
          have HB2 := Lib.hid hb2
          simp only [Bool.false_eq_true, if_false]
          clear hc hb2 hh e39 e92
          have hsk := HSK.out
          go_enter Tryz.func112, Tryz.ntmps112
          go_wp2_with fail
          refine HOV.out.mono ?_
          rintro e w1 ⟨rfl, m, rfl⟩
          have c0 : (w.drewN m).cell? ⟨p, 0, none⟩ = some (.string s) := c0
          have c2 : (w.drewN m).cell? ⟨p, 2, none⟩ = some (.int .i64 a) := c2
          go_wp2_with fail
          go_region
          clear hsk
          have c2' : (w.drewN (m + 1)).cell? ⟨p, 2, none⟩ = some (.int .i64 a) := c2
          have dz' : (w.drewN (m + 1)).frozen? ⟨p, 2, none⟩ = false := dz
          go_wp2_with fail
          refine (HB2.out (m + 1)).mono ?_
          rintro e w2 ⟨rfl, n, rfl⟩
          rw [World.drewN_drewN]
          have c3 : (w.drewN (m + 1 + n)).cell? ⟨p, 2, none⟩ = some (.int .i64 a) := c2
          have dz3 : (w.drewN (m + 1 + n)).frozen? ⟨p, 2, none⟩ = false := dz
          go_wp2_with fail
          go_ret3
          exact ⟨rfl, (HLX.out.drewN _).to' (by omega) (by omega), (HK.out.drewN _).setCell (by simp) _⟩
        · rw [hh] at hb2
          have HB2 := Lib.hid hb2
          simp only [if_true]
          have h2 : a + 2 ≤ L.length := by
            rcases r with _ | ⟨d, r⟩
            · cases hh
            · simp at hrl; omega
          unfold InqPost byteV
          rw [hc] at h39 h32 h126 h92 HSK
          clear hc hb2 hh e39 e92
          have hsk := HSK.out
          go_enter Tryz.func112, Tryz.ntmps112
          go_wp2_with fail
          refine HOV.out.mono ?_
          rintro e w1 ⟨rfl, m, rfl⟩
          have c0 : (w.drewN m).cell? ⟨p, 0, none⟩ = some (.string s) := c0
          have c2 : (w.drewN m).cell? ⟨p, 2, none⟩ = some (.int .i64 a) := c2
          go_wp2_with fail
          go_region
          clear hsk
          have c2' : (w.drewN (m + 1)).cell? ⟨p, 2, none⟩ = some (.int .i64 a) := c2
          have dz' : (w.drewN (m + 1)).frozen? ⟨p, 2, none⟩ = false := dz
          go_wp2_with fail
          refine (HB2.out (m + 1)).mono ?_
          rintro e w2 ⟨rfl, n, rfl⟩
          rw [World.drewN_drewN]
          have c3 : (w.drewN (m + 1 + n)).cell? ⟨p, 2, none⟩ = some (.int .i64 a) := c2
          have dz3 : (w.drewN (m + 1 + n)).frozen? ⟨p, 2, none⟩ = false := dz
          have c4 : ((w.drewN (m + 1 + n)).setCell ⟨p, 2, none⟩ (.int .i64 ((a : Int) + 1))).cell? ⟨p, 2, none⟩ = some (.int .i64 ((a : Int) + 1)) := (((HLX.out.drewN (m + 1 + n)).to' (b := a + 1) (x := (a : Int) + 1) (by omega) (by omega)).c2).trans (by simp)
          go_wp2_with fail
          go_ret3
          exact ⟨rfl, ((HLX.out.drewN _).to' (b := a + 1) (by omega) (by omega)).to' (by omega) (by omega), ((HK.out.drewN _).setCell (by simp) _).setCell (by simp) _⟩
      · rw [e39] at h39
        simp only [Bool.false_eq_true, if_false]
        by_cases g1 : (32 : Int) ≤ (c.toNat : Int)
        · by_cases g2 : (c.toNat : Int) ≤ 126
          · rw [h32, h126, decide_eq_true g1, decide_eq_true g2]
            simp only [Bool.and_self, if_true]
            unfold InqPost byteV
            clear h32 h126
            have hsk := HSK.out
            go_enter Tryz.func112, Tryz.ntmps112
            go_wp2_with fail
            refine HOV.out.mono ?_
            rintro e w1 ⟨rfl, m, rfl⟩
            have c0 : (w.drewN m).cell? ⟨p, 0, none⟩ = some (.string s) := c0
            have c2 : (w.drewN m).cell? ⟨p, 2, none⟩ = some (.int .i64 a) := c2
            go_wp2_with fail
            go_region
            clear hsk
            have c2' : (w.drewN (m + 1)).cell? ⟨p, 2, none⟩ = some (.int .i64 a) := c2
            have dz' : (w.drewN (m + 1)).frozen? ⟨p, 2, none⟩ = false := dz
            go_wp2_with fail
            go_ret3
            exact ⟨rfl, (HLX.out.drewN _).to' (by omega) (by omega), (HK.out.drewN _).setCell (by simp) _⟩
          · rw [h32, h126, decide_eq_true g1, decide_eq_false g2]
            simp only [Bool.and_false, Bool.false_eq_true, if_false]
            clear h32 h126
            have hsk := HSK.out
            go_enter Tryz.func112, Tryz.ntmps112
            go_wp2_with fail
            refine HOV.out.mono ?_
            rintro e w1 ⟨rfl, m, rfl⟩
            have c0 : (w.drewN m).cell? ⟨p, 0, none⟩ = some (.string s) := c0
            have c2 : (w.drewN m).cell? ⟨p, 2, none⟩ = some (.int .i64 a) := c2
            go_wp2_with fail
            go_region
            clear hsk
            have c2' : (w.drewN (m + 1)).cell? ⟨p, 2, none⟩ = some (.int .i64 a) := c2
            have dz' : (w.drewN (m + 1)).frozen? ⟨p, 2, none⟩ = false := dz
            go_wp2_with fail
            refine (HN.out _).mono ?_
            rintro e w1 ⟨rfl, hF, hk⟩
            have HF := Lib.hid hF
            have HK1 := Lib.hid ((HK.out.drewN (m + 1)).trans (hk.less (Y := (· ≠ p)) (fun _ _ => trivial)))
            clear hF hk
            unfold faultV
            go_wp2_with fail
            go_ret3
            exact ⟨w.heap.size, rfl, HF.out, Nat.le_refl _, HK1.out⟩
        · rw [h32, h126, decide_eq_false g1]
          simp only [Bool.false_and, Bool.false_eq_true, if_false]
          clear h32 h126
          have hsk := HSK.out
          go_enter Tryz.func112, Tryz.ntmps112
          go_wp2_with fail
          refine HOV.out.mono ?_
          rintro e w1 ⟨rfl, m, rfl⟩
          have c0 : (w.drewN m).cell? ⟨p, 0, none⟩ = some (.string s) := c0
          have c2 : (w.drewN m).cell? ⟨p, 2, none⟩ = some (.int .i64 a) := c2
          go_wp2_with fail
          go_region
          clear hsk
          have c2' : (w.drewN (m + 1)).cell? ⟨p, 2, none⟩ = some (.int .i64 a) := c2
          have dz' : (w.drewN (m + 1)).frozen? ⟨p, 2, none⟩ = false := dz
          go_wp2_with fail
          refine (HN.out _).mono ?_
          rintro e w1 ⟨rfl, hF, hk⟩
          have HF := Lib.hid hF
          have HK1 := Lib.hid ((HK.out.drewN (m + 1)).trans (hk.less (Y := (· ≠ p)) (fun _ _ => trivial)))
          clear hF hk
          unfold faultV
          go_wp2_with fail
          go_ret3
          exact ⟨w.heap.size, rfl, HF.out, Nat.le_refl _, HK1.out⟩
end Go.Proofs.YtfkbbbjicaedmaaGreatDoor
