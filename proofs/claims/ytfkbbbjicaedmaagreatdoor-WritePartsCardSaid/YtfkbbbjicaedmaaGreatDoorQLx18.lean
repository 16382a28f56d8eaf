/-
  Package lex: an escape; what stands for one byte in quotes. Conditions: a lexer in memory.
-/
import Derived.Test.YtfkbbbjicaedmaaGreatDoorQLx17
namespace Go.Proofs.YtfkbbbjicaedmaaGreatDoor
open Go.RowKit Go.Shelf Go.Maps
set_option linter.unusedVariables false
set_option linter.unusedSimpArgs false
def InqPost (w : World) (p : Nat) (L : List UInt8) (fr a : Nat) (x : QR) (e : Ending) (w' : World) : Prop :=
  match x with
  | .byte c n => e = .returned (.tuple #[byteV c, .bool true, .nilIface]) ∧ LxAt w' p L fr (a + n) ∧ Keep (· ≠ p) w w'
  | .close => e = .returned (.tuple #[.int .u8 0, .bool false, .nilIface]) ∧ LxAt w' p L fr (a + 1) ∧ Keep (· ≠ p) w w'
  | .over => ∃ b, e = .returned (.tuple #[.int .u8 0, .bool false, faultV b]) ∧ FaultAt w' b 81 fr ∧ w.heap.size ≤ b ∧ Keep (· ≠ p) w w'
  | .bad code => ∃ b, e = .returned (.tuple #[.int .u8 0, .bool false, faultV b]) ∧ FaultAt w' b code a ∧ w.heap.size ≤ b ∧ Keep (· ≠ p) w w'
theorem InqPost.is {w : World} {p : Nat} {L : List UInt8} {fr a : Nat} {x : QR} {e : Ending} {w' : World} (h : InqPost w p L fr a x e w') : ∃ v0 v1 v2, e = .returned (.tuple #[v0, v1, v2]) := by
  cases x with
  | byte c n => exact ⟨_, _, _, h.1⟩
  | close => exact ⟨_, _, _, h.1⟩
  | over => obtain ⟨b, h, _⟩ := h; exact ⟨_, _, _, h⟩
  | bad c => obtain ⟨b, h, _⟩ := h; exact ⟨_, _, _, h⟩
theorem InqPost.from {w w0 : World} {p : Nat} {L : List UInt8} {fr a : Nat} {x : QR} {e : Ending} {w' : World} (hk : Keep (· ≠ p) w w0) (h : InqPost w0 p L fr a x e w') : InqPost w p L fr a x e w' := by
  have hs := hk.size
  cases x with
  | byte c n => exact ⟨h.1, h.2.1, hk.trans h.2.2⟩
  | close => exact ⟨h.1, h.2.1, hk.trans h.2.2⟩
  | over => obtain ⟨b, h1, h2, h3, h4⟩ := h; exact ⟨b, h1, h2, by omega, hk.trans h4⟩
  | bad c => obtain ⟨b, h1, h2, h3, h4⟩ := h; exact ⟨b, h1, h2, by omega, hk.trans h4⟩
set_option maxRecDepth 1000000 in
set_option maxHeartbeats 8000000 in
theorem escape_any {w : World} {p : Nat} {L : List UInt8} {fr a : Nat} (h : LxAt w p L fr a) {r : List UInt8} (hcr : L.drop a = 92 :: r) : Calls Tryz.prog 119 #[.pointer (some ⟨p, 0, none⟩)] w (InqPost w p L fr a (escL r)) := by
  obtain ⟨hlt, hdr, _⟩ := str_at hcr
  have HLX := Lib.hid h
  have hrl : r.length + a + 1 = L.length := by
    have := congrArg List.length hcr
    simp at this; omega
  have HD := Lib.hid hdr
  have hlen := h.len
  clear h hcr hdr
  have hd : (str L).extract (a + 1) L.length = str r := by have h0 := drop_str L (a + 1); rw [str_size, HD.out] at h0; exact h0
  have hw := IntWalk.i64_in ((a : Int) + 1) (by omega)
  have hn : ((a : Int) + 1).toNat = a + 1 := by omega
  have h0 : (0 : Int) ≤ (a : Int) + 1 := by omega
  have hs := str_size L
  have c0 := HLX.out.c0
  have c2 := HLX.out.c2
  have hlt0 := HLX.out.blk.lt
  generalize str L = s at *
  have HW := Lib.hid (And.intro hw (And.intro hn (And.intro hs hd)))
  have HK := Lib.hid (Keep.refl (· ≠ p) w)
  clear hw hn hs hd
  rcases r with _ | ⟨d, r⟩
  · have he : str [] = (⟨#[]⟩ : ByteArray) := rfl
    have hnf := fun W => new_any 81 fr (by decide) W
    have HN := Lib.hid hnf
    clear hnf
    go_enter Tryz.func119, Tryz.ntmps119
    obtain ⟨hw, hn, hs, hd⟩ := HW.out
    rw [he] at hd
    go_wp2_with fail
    go_region
    have c1 : w.drew.cell? ⟨p, 1, none⟩ = some (.int .i64 fr) := HLX.out.c1
    clear hw hn hs hd
    go_wp2_with fail
    refine (HN.out _).mono ?_
    rintro e w1 ⟨rfl, hF, hk⟩
    have HF := Lib.hid hF
    have HK1 := Lib.hid (HK.out.drew.trans (hk.less (Y := (· ≠ p)) (fun _ _ => trivial)))
    clear hF hk
    unfold faultV
    go_wp2_with fail
    go_ret3
    exact ⟨w.heap.size, rfl, HF.out, Nat.le_refl _, HK1.out⟩
  · have hte : (str (d :: r)).toList = d :: r := str_ne
    have hz : 0 < (str (d :: r)).size := by rw [str_size]; simp
    have hz0 := str_zero hz
    have h110 := u8_eq d 110
    have h116 := u8_eq d 116
    have h92 := u8_eq d 92
    have h39 := u8_eq d 39
    have h34 := u8_eq d 34
    rw [show (((110 : UInt8).toNat : Nat) : Int) = 110 from rfl] at h110
    rw [show (((116 : UInt8).toNat : Nat) : Int) = 116 from rfl] at h116
    rw [show (((92 : UInt8).toNat : Nat) : Int) = 92 from rfl] at h92
    rw [show (((39 : UInt8).toNat : Nat) : Int) = 39 from rfl] at h39
    rw [show (((34 : UInt8).toNat : Nat) : Int) = 34 from rfl] at h34
    generalize str (d :: r) = s2 at *
    have hl2 : a + 2 ≤ L.length := by simp at hrl; omega
    have HZ := Lib.hid (And.intro hte hz0)
    have hnf := fun W => new_any 82 a (by decide) W
    have HN := Lib.hid hnf
    clear hnf
    clear hte hz0
    have hes : escL (d :: r) = if d == 110 then .byte 10 2 else if d == 116 then .byte 9 2 else if d == 92 || (d == 39 || d == 34) then .byte d 2 else .bad 82 := rfl
    rw [hes]
    clear hes
    rcases e110 : d == 110 with _ | _
    rotate_left
    · rw [e110] at h110
      simp only [Bool.false_eq_true, if_false, if_true, Bool.true_or, Bool.or_true, Bool.false_or, Bool.or_false]
      obtain ⟨hte, hz0⟩ := HZ.out
      obtain ⟨hw, hn, hs, hd⟩ := HW.out
      go_enter Tryz.func119, Tryz.ntmps119
      go_wp2_with fail
      go_region
      clear hw hn hs hd
      have c2' : w.drew.cell? ⟨p, 2, none⟩ = some (.int .i64 a) := HLX.out.c2
      have dz' : w.drew.frozen? ⟨p, 2, none⟩ = false := HLX.out.blk.frozen 2
      go_wp2_with fail
      go_ret3
      exact ⟨rfl, HLX.out.drew.to' hl2 (by omega), HK.out.drew.setCell (by simp) _⟩
    · rw [e110] at h110
      rcases e116 : d == 116 with _ | _
      rotate_left
      · rw [e116] at h116
        simp only [Bool.false_eq_true, if_false, if_true, Bool.true_or, Bool.or_true, Bool.false_or, Bool.or_false]
        obtain ⟨hte, hz0⟩ := HZ.out
        obtain ⟨hw, hn, hs, hd⟩ := HW.out
        go_enter Tryz.func119, Tryz.ntmps119
        go_wp2_with fail
        go_region
        clear hw hn hs hd
        have c2' : w.drew.cell? ⟨p, 2, none⟩ = some (.int .i64 a) := HLX.out.c2
        have dz' : w.drew.frozen? ⟨p, 2, none⟩ = false := HLX.out.blk.frozen 2
        go_wp2_with fail
        go_ret3
        exact ⟨rfl, HLX.out.drew.to' hl2 (by omega), HK.out.drew.setCell (by simp) _⟩
      · rw [e116] at h116
        rcases e92 : d == 92 with _ | _
        rotate_left
        · rw [e92] at h92
          simp only [Bool.false_eq_true, if_false, if_true, Bool.true_or, Bool.or_true, Bool.false_or, Bool.or_false]
          unfold InqPost byteV
          obtain ⟨hte, hz0⟩ := HZ.out
          obtain ⟨hw, hn, hs, hd⟩ := HW.out
          go_enter Tryz.func119, Tryz.ntmps119
          go_wp2_with fail
          go_region
          clear hw hn hs hd
          have c2' : w.drew.cell? ⟨p, 2, none⟩ = some (.int .i64 a) := HLX.out.c2
          have dz' : w.drew.frozen? ⟨p, 2, none⟩ = false := HLX.out.blk.frozen 2
          go_wp2_with fail
          go_ret3
          exact ⟨rfl, HLX.out.drew.to' hl2 (by omega), HK.out.drew.setCell (by simp) _⟩
        · rw [e92] at h92
          rcases e39 : d == 39 with _ | _
          rotate_left
          · rw [e39] at h39
            simp only [Bool.false_eq_true, if_false, if_true, Bool.true_or, Bool.or_true, Bool.false_or, Bool.or_false]
            unfold InqPost byteV
            obtain ⟨hte, hz0⟩ := HZ.out
            obtain ⟨hw, hn, hs, hd⟩ := HW.out
            go_enter Tryz.func119, Tryz.ntmps119
            go_wp2_with fail
            go_region
            clear hw hn hs hd
            have c2' : w.drew.cell? ⟨p, 2, none⟩ = some (.int .i64 a) := HLX.out.c2
            have dz' : w.drew.frozen? ⟨p, 2, none⟩ = false := HLX.out.blk.frozen 2
            go_wp2_with fail
            go_ret3
            exact ⟨rfl, HLX.out.drew.to' hl2 (by omega), HK.out.drew.setCell (by simp) _⟩
          · rw [e39] at h39
            rcases e34 : d == 34 with _ | _
            rotate_left
            · rw [e34] at h34
              simp only [Bool.false_eq_true, if_false, if_true, Bool.true_or, Bool.or_true, Bool.false_or, Bool.or_false]
              unfold InqPost byteV
              obtain ⟨hte, hz0⟩ := HZ.out
              obtain ⟨hw, hn, hs, hd⟩ := HW.out
              go_enter Tryz.func119, Tryz.ntmps119
              go_wp2_with fail
              go_region
              clear hw hn hs hd
              have c2' : w.drew.cell? ⟨p, 2, none⟩ = some (.int .i64 a) := HLX.out.c2
              have dz' : w.drew.frozen? ⟨p, 2, none⟩ = false := HLX.out.blk.frozen 2
              go_wp2_with fail
              go_ret3
              exact ⟨rfl, HLX.out.drew.to' hl2 (by omega), HK.out.drew.setCell (by simp) _⟩
            · rw [e34] at h34
              simp only [Bool.false_eq_true, if_false, if_true, Bool.or_self]
              obtain ⟨hte, hz0⟩ := HZ.out
              obtain ⟨hw, hn, hs, hd⟩ := HW.out
              go_enter Tryz.func119, Tryz.ntmps119
              go_wp2_with fail
              go_region
              clear hw hn hs hd
              have c2' : w.drew.cell? ⟨p, 2, none⟩ = some (.int .i64 a) := HLX.out.c2
              have dz' : w.drew.frozen? ⟨p, 2, none⟩ = false := HLX.out.blk.frozen 2
              go_wp2_with fail
              refine (HN.out _).mono ?_
              rintro e w1 ⟨rfl, hF, hk⟩
              have HF := Lib.hid hF
              have HK1 := Lib.hid (HK.out.drew.trans (hk.less (Y := (· ≠ p)) (fun _ _ => trivial)))
              clear hF hk
              unfold faultV
              go_wp2_with fail
              go_ret3
              exact ⟨w.heap.size, rfl, HF.out, Nat.le_refl _, HK1.out⟩
end Go.Proofs.YtfkbbbjicaedmaaGreatDoor
