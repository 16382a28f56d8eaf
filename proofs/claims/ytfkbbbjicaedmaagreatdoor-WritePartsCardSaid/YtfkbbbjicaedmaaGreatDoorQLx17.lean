/-
  Package lex: is there a full stop? Conditions: a lexer in memory.
-/
import Derived.Test.YtfkbbbjicaedmaaGreatDoorQLx15
namespace Go.Proofs.YtfkbbbjicaedmaaGreatDoor
open Go.RowKit Go.Shelf Go.Maps
set_option linter.unusedVariables false
set_option linter.unusedSimpArgs false
theorem str_ne {d : UInt8} {r : List UInt8} : (str (d :: r)).toList = d :: r := by
  rw [ByteArray.toList_eq]; exact str_data _
theorem str_zero {d : UInt8} {r : List UInt8} (h : 0 < (str (d :: r)).size) : ((str (d :: r))[0]'h) = d := by
  have : (str (d :: r))[0]'h = (d :: r).toArray[0]'(by simp) := rfl
  rw [this]; rfl
theorem stop_nil (c : UInt8) : stopB [c] = (c == 46) := by simp [stopB]
theorem stop_cons (c d : UInt8) (r : List UInt8) : stopB (c :: d :: r) = (c == 46 && (blankB d || d == 37)) := rfl
theorem pre_one (x c : UInt8) (r : List UInt8) : ([x] : List UInt8).isPrefixOf (c :: r) = (c == x) := by
  simp only [List.isPrefixOf, Bool.and_true]
  rw [Bool.eq_iff_iff]; constructor <;> intro h <;> (have := eq_of_beq h; subst this; simp)
theorem u8_eq (d x : UInt8) : ((d.toNat : Int) == (x.toNat : Int)) = (d == x) := by
  rw [Bool.eq_iff_iff]; simp
  constructor
  · intro h; exact UInt8.toNat_inj.1 (by omega)
  · rintro rfl; rfl
set_option maxRecDepth 1000000 in
set_option maxHeartbeats 4000000 in
theorem isEnd_q {w : World} {p : Nat} {L : List UInt8} {fr a : Nat} (h : LxAt w p L fr a) {c : UInt8} {r : List UInt8} (hcr : L.drop a = c :: r) : Calls Tryz.prog 103 #[.pointer (some ⟨p, 0, none⟩)] w fun e w' => e = .returned (.bool (stopB (c :: r))) ∧ ∃ m, w' = w.drewN m := by
  obtain ⟨hlt, hdr, _⟩ := str_at hcr
  have hbg := begins_q h [46]
  rw [hcr, pre_one, show str [46] = (⟨#[46]⟩ : ByteArray) from rfl] at hbg
  have HL := Lib.hid h
  have HC := Lib.hid hcr
  have HD := Lib.hid hdr
  have hlen := h.len
  clear h hcr hdr
  rcases hc : c == 46 with _ | _
  · rw [hc] at hbg
    have hst : stopB (c :: r) = false := by
      rcases r with _ | ⟨d, r⟩
      · rw [stop_nil, hc]
      · rw [stop_cons, hc]; rfl
    rw [hst]
    clear hst
    have HBG := Lib.hid hbg
    clear hbg hc
    go_enter Tryz.func103, Tryz.ntmps103
    go_wp2_with fail
    refine HBG.out.mono ?_
    rintro e w1 ⟨rfl, m, rfl⟩
    go_wp2_with fail
    go_ret
    exact ⟨rfl, m, rfl⟩
  · rw [hc] at hbg
    have HBG := Lib.hid hbg
    clear hbg
    have HCC := Lib.hid hc
    clear hc
    have hd : (str L).extract (a + 1) L.length = str r := by have h0 := drop_str L (a + 1); rw [str_size, HD.out] at h0; exact h0
    have hw := IntWalk.i64_in ((a : Int) + 1) (by omega)
    have hn : ((a : Int) + 1).toNat = a + 1 := by omega
    have h0 : (0 : Int) ≤ (a : Int) + 1 := by omega
    have hs := str_size L
    have c0 := HL.out.c0
    have c2 := HL.out.c2
    have hlt0 := HL.out.blk.lt
    generalize str L = s at *
    have HW := Lib.hid (And.intro hw (And.intro hn (And.intro hs hd)))
    clear hw hn hs hd
    rcases r with _ | ⟨d, r⟩
    · rw [stop_nil, HCC.out]
      have he : str [] = (⟨#[]⟩ : ByteArray) := rfl
      go_enter Tryz.func103, Tryz.ntmps103
      go_wp2_with fail
      refine HBG.out.mono ?_
      rintro e w1 ⟨rfl, m, rfl⟩
      obtain ⟨hw, hn, hs, hd⟩ := HW.out
      rw [he] at hd
      have c0 : (w.drewN m).cell? ⟨p, 0, none⟩ = some (.string s) := c0
      have c2 : (w.drewN m).cell? ⟨p, 2, none⟩ = some (.int .i64 a) := c2
      go_wp2_with fail
      go_region
      go_wp2_with fail
      go_ret
      exact ⟨rfl, m + 1, rfl⟩
    · rw [stop_cons, HCC.out, Bool.true_and]
      have hil := fun W => isBlank_any d W
      unfold byteV at hil
      have hte : (str (d :: r)).toList = d :: r := str_ne
      have hz : 0 < (str (d :: r)).size := by rw [str_size]; simp
      have hz0 := str_zero hz
      have h37 := u8_eq d 37
      rw [show (((37 : UInt8).toNat : Nat) : Int) = 37 from rfl] at h37
      generalize str (d :: r) = s2 at *
      have HI := Lib.hid hil
      have HZ := Lib.hid (And.intro hte (And.intro hz0 h37))
      clear hil hte hz0 h37
      go_enter Tryz.func103, Tryz.ntmps103
      go_wp2_with fail
      refine HBG.out.mono ?_
      rintro e w1 ⟨rfl, m, rfl⟩
      obtain ⟨hw, hn, hs, hd⟩ := HW.out
      obtain ⟨hte, hz0, h37⟩ := HZ.out
      have c0 : (w.drewN m).cell? ⟨p, 0, none⟩ = some (.string s) := c0
      have c2 : (w.drewN m).cell? ⟨p, 2, none⟩ = some (.int .i64 a) := c2
      go_wp2_with fail
      go_region
      clear hw hn hs hd
      go_wp2_with fail
      refine (HI.out _).mono ?_
      rintro e w2 ⟨rfl, rfl⟩
      rcases hb : blankB d with _ | _
      · go_wp2_with fail
        go_ret
        exact ⟨by simp [hb], m + 1, rfl⟩
      · go_wp2_with fail
        go_ret
        exact ⟨by simp [hb], m + 1, rfl⟩
end Go.Proofs.YtfkbbbjicaedmaaGreatDoor
