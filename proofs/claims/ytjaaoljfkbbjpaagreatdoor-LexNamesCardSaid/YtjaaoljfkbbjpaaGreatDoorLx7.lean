/-
  Package lex: kinds of bytes; what stands next in the text; a lexer in memory. No condition.
-/
import Derived.Test.YtjaaoljfkbbjpaaGreatDoorLx6
import Derived.Test.YtjaaoljfkbbjpaaGreatDoorMem
import Derived.Test.YtjaaoljfkbbjpaaGreatDoorStr
import Derived.Test.YtjaaoljfkbbjpaaGreatDoorLayd
import Derived.Lib.Hide
import Derived.StillTailTactics
import Derived.Shelf.Strings.Cut
import Derived.Shelf.Strings.Prefix
import Derived.Shelf.Small.Strs
import Derived.Shelf.Strconv.Clone
namespace Go.Proofs.YtjaaoljfkbbjpaaGreatDoor
open Go.RowKit Go.Shelf Go.Maps
set_option linter.unusedVariables false
set_option linter.unusedSimpArgs false

def byteV (c : UInt8) : Value := .int .u8 (c.toNat : Int)
theorem of_all256 {f g : UInt8 → Bool} (h : ∀ n : Fin 256, f (UInt8.ofNat n.val) = g (UInt8.ofNat n.val)) (c : UInt8) : f c = g c := by
  have := h ⟨c.toNat, c.toNat_lt⟩
  simpa using this
theorem idx_blank (c : UInt8) : decide (0 ≤ Lib.indexByte [9, 10, 13, 32] c) = blankB c := of_all256 (f := fun c => decide (0 ≤ Lib.indexByte [9, 10, 13, 32] c)) (by decide +kernel) c
theorem idx_sign (c : UInt8) : decide (0 ≤ Lib.indexByte [43, 45, 42, 47, 92, 94, 60, 62, 61, 126, 58, 46, 63, 64, 35, 38, 36] c) = signB c := of_all256 (f := fun c => decide (0 ≤ Lib.indexByte [43, 45, 42, 47, 92, 94, 60, 62, 61, 126, 58, 46, 63, 64, 35, 38, 36] c)) (by decide +kernel) c
theorem idx_punct (c : UInt8) : decide (0 ≤ Lib.indexByte [40, 41, 91, 93, 123, 125, 44, 124] c) = punctB c := of_all256 (f := fun c => decide (0 ≤ Lib.indexByte [40, 41, 91, 93, 123, 125, 44, 124] c)) (by decide +kernel) c
theorem toU8 (c : UInt8) : ((c.toNat : Int)).toNat.toUInt8 = c := by simp

set_option maxRecDepth 100000 in
set_option maxHeartbeats 1000000 in
theorem isBlank_any (c : UInt8) (w : World) : Calls Tryz.prog 30 #[byteV c] w fun e w' => e = .returned (.bool (blankB c)) ∧ w' = w := by
  have hi := fun W => Any.strings_IndexByte Tryz.idxB ⟨#[9, 10, 13, 32]⟩ (c.toNat : Int) W
  rw [toU8] at hi
  have hb := idx_blank c
  unfold byteV
  go_enter Tryz.func30, Tryz.ntmps30
  go_wp2_with fail
  refine (hi _).mono ?_
  rintro e w' ⟨rfl, rfl⟩
  go_wp2_with fail
  go_ret
  exact ⟨rfl, rfl⟩
set_option maxRecDepth 100000 in
set_option maxHeartbeats 1000000 in
theorem sign_any (c : UInt8) (w : World) : Calls Tryz.prog 13 #[byteV c] w fun e w' => e = .returned (.bool (signB c)) ∧ w' = w := by
  have hi := fun W => Any.strings_IndexByte Tryz.idxB ⟨#[43, 45, 42, 47, 92, 94, 60, 62, 61, 126, 58, 46, 63, 64, 35, 38, 36]⟩ (c.toNat : Int) W
  rw [toU8] at hi
  have hb := idx_sign c
  unfold byteV
  go_enter Tryz.func13, Tryz.ntmps13
  go_wp2_with fail
  refine (hi _).mono ?_
  rintro e w' ⟨rfl, rfl⟩
  go_wp2_with fail
  go_ret
  exact ⟨rfl, rfl⟩
set_option maxRecDepth 100000 in
set_option maxHeartbeats 1000000 in
theorem isPunct_any (c : UInt8) (w : World) : Calls Tryz.prog 39 #[byteV c] w fun e w' => e = .returned (.bool (punctB c)) ∧ w' = w := by
  have hi := fun W => Any.strings_IndexByte Tryz.idxB ⟨#[40, 41, 91, 93, 123, 125, 44, 124]⟩ (c.toNat : Int) W
  rw [toU8] at hi
  have hb := idx_punct c
  unfold byteV
  go_enter Tryz.func39, Tryz.ntmps39
  go_wp2_with fail
  refine (hi _).mono ?_
  rintro e w' ⟨rfl, rfl⟩
  go_wp2_with fail
  go_ret
  exact ⟨rfl, rfl⟩
theorem small_int (c : UInt8) : smallB c = (decide ((97 : Int) ≤ c.toNat) && decide ((c.toNat : Int) ≤ 122)) := by
  exact of_all256 (f := smallB) (g := fun c => (decide ((97 : Int) ≤ c.toNat) && decide ((c.toNat : Int) ≤ 122))) (by decide +kernel) c
theorem cap_int (c : UInt8) : capB c = ((decide ((65 : Int) ≤ c.toNat) && decide ((c.toNat : Int) ≤ 90)) || decide ((c.toNat : Int) = 95)) := by
  exact of_all256 (f := capB) (g := fun c => ((decide ((65 : Int) ≤ c.toNat) && decide ((c.toNat : Int) ≤ 90)) || decide ((c.toNat : Int) = 95))) (by decide +kernel) c
theorem dig_int (c : UInt8) : digB c = (decide ((48 : Int) ≤ c.toNat) && decide ((c.toNat : Int) ≤ 57)) := by
  exact of_all256 (f := digB) (g := fun c => (decide ((48 : Int) ≤ c.toNat) && decide ((c.toNat : Int) ≤ 57))) (by decide +kernel) c
theorem let_int (c : UInt8) : letB c = (smallB c || (capB c || digB c)) := rfl
set_option maxRecDepth 100000 in
theorem isSmall_any (c : UInt8) (w : World) : Calls Tryz.prog 33 #[byteV c] w fun e w' => e = .returned (.bool (smallB c)) ∧ w' = w := by
  have hb := small_int c
  unfold byteV
  generalize (c.toNat : Int) = n at *
  by_cases h1 : (97 : Int) ≤ n
  · have hb2 : smallB c = decide (n ≤ 122) := by rw [hb]; simp [h1]
    rw [hb2]
    go_enter Tryz.func33, Tryz.ntmps33
    go_wp2
    go_ret
    exact ⟨rfl, rfl⟩
  · have hb2 : smallB c = false := by rw [hb]; simp [h1]
    rw [hb2]
    go_enter Tryz.func33, Tryz.ntmps33
    go_wp2
    go_ret
    exact ⟨rfl, rfl⟩
set_option maxRecDepth 100000 in
theorem isDigit_any (c : UInt8) (w : World) : Calls Tryz.prog 37 #[byteV c] w fun e w' => e = .returned (.bool (digB c)) ∧ w' = w := by
  have hb := dig_int c
  unfold byteV
  generalize (c.toNat : Int) = n at *
  by_cases h1 : (48 : Int) ≤ n
  · have hb2 : digB c = decide (n ≤ 57) := by rw [hb]; simp [h1]
    rw [hb2]
    go_enter Tryz.func37, Tryz.ntmps37
    go_wp2
    go_ret
    exact ⟨rfl, rfl⟩
  · have hb2 : digB c = false := by rw [hb]; simp [h1]
    rw [hb2]
    go_enter Tryz.func37, Tryz.ntmps37
    go_wp2
    go_ret
    exact ⟨rfl, rfl⟩
set_option maxRecDepth 100000 in
theorem isCapital_any (c : UInt8) (w : World) : Calls Tryz.prog 35 #[byteV c] w fun e w' => e = .returned (.bool (capB c)) ∧ w' = w := by
  have hb := cap_int c
  unfold byteV
  generalize (c.toNat : Int) = n at *
  by_cases h1 : (65 : Int) ≤ n
  · by_cases h2 : n ≤ 90
    · have hb2 : capB c = true := by rw [hb]; simp [h1, h2]
      rw [hb2]
      go_enter Tryz.func35, Tryz.ntmps35
      go_wp2
      go_ret
      exact ⟨rfl, rfl⟩
    · have hb2 : capB c = decide (n = 95) := by rw [hb]; simp [h2]
      rw [hb2]
      go_enter Tryz.func35, Tryz.ntmps35
      go_wp2
      go_ret
      exact ⟨rfl, rfl⟩
  · have hb2 : capB c = decide (n = 95) := by rw [hb]; simp [h1]
    rw [hb2]
    go_enter Tryz.func35, Tryz.ntmps35
    go_wp2
    go_ret
    exact ⟨rfl, rfl⟩
set_option maxRecDepth 100000 in
set_option maxHeartbeats 1000000 in
theorem isLetter_any (c : UInt8) (w : World) : Calls Tryz.prog 59 #[byteV c] w fun e w' => e = .returned (.bool (letB c)) ∧ w' = w := by
  have h1 := fun W => isSmall_any c W
  have h2 := fun W => isCapital_any c W
  have h3 := fun W => isDigit_any c W
  have hl : (smallB c || (capB c || digB c)) = letB c := rfl
  unfold byteV at *
  generalize (c.toNat : Int) = n at *
  generalize letB c = l at *
  generalize smallB c = a at *
  generalize capB c = b at *
  generalize digB c = d at *
  subst hl
  go_enter Tryz.func59, Tryz.ntmps59
  cases a <;> cases b <;>
  · go_wp2_with (first
      | (go_at_call 33; refine (h1 _).mono ?_; rintro e w' ⟨rfl, rfl⟩)
      | (go_at_call 35; refine (h2 _).mono ?_; rintro e w' ⟨rfl, rfl⟩)
      | (go_at_call 37; refine (h3 _).mono ?_; rintro e w' ⟨rfl, rfl⟩))
    go_ret
    exact ⟨by simp, rfl⟩

/-- A lexer in memory: its text, where the token under way begins, the first byte that isn't read yet. -/
structure LxAt (w : World) (p : Nat) (L : List UInt8) (fr a : Nat) : Prop where
  blk : Blk w p 51 #[.string (str L), .int .i64 fr, .int .i64 a]
  le : a ≤ L.length
  len : L.length ≤ 16384
theorem LxAt.keep {X : Nat → Prop} {w w' : World} {p : Nat} {L : List UInt8} {fr a : Nat} (h : LxAt w p L fr a) (hk : Keep X w w') (hX : X p) : LxAt w' p L fr a := ⟨h.blk.keep hk hX, h.le, h.len⟩
theorem LxAt.c0 {w : World} {p : Nat} {L : List UInt8} {fr a : Nat} (h : LxAt w p L fr a) : w.cell? ⟨p, 0, none⟩ = some (.string (str L)) := h.blk.cell 0
theorem LxAt.c1 {w : World} {p : Nat} {L : List UInt8} {fr a : Nat} (h : LxAt w p L fr a) : w.cell? ⟨p, 1, none⟩ = some (.int .i64 fr) := h.blk.cell 1
theorem LxAt.c2 {w : World} {p : Nat} {L : List UInt8} {fr a : Nat} (h : LxAt w p L fr a) : w.cell? ⟨p, 2, none⟩ = some (.int .i64 a) := h.blk.cell 2
theorem LxAt.to {w : World} {p : Nat} {L : List UInt8} {fr a : Nat} (h : LxAt w p L fr a) {b : Nat} (hb : b ≤ L.length) : LxAt (w.setCell ⟨p, 2, none⟩ (.int .i64 b)) p L fr b := ⟨h.blk.set_ 2 _, hb, h.len⟩
theorem drop_str (L : List UInt8) (a : Nat) : (str L).extract a (str L).size = str (L.drop a) := by
  apply ByteArray.ext
  simp [str, ByteArray.size]
  exact List.take_of_length_le (by simp)
set_option maxRecDepth 100000 in
theorem isOver_any {w : World} {p : Nat} {L : List UInt8} {fr a : Nat} (h : LxAt w p L fr a) : Calls Tryz.prog 24 #[.pointer (some ⟨p, 0, none⟩)] w fun e w' => e = .returned (.bool (decide (a = L.length))) ∧ Keep (fun _ => True) w w' := by
  have c0 := h.c0
  have c2 := h.c2
  have hs := str_size L
  have hlt := h.blk.lt
  have HK := Lib.hid (Keep.refl (fun _ => True) w)
  generalize str L = s at *
  go_enter Tryz.func24, Tryz.ntmps24
  go_wp2
  go_region
  go_wp2
  go_ret
  refine ⟨?_, HK.out.drew⟩
  rw [← hs]
  have : ((a : Int) == (s.size : Int)) = decide (a = s.size) := by
    by_cases hh : a = s.size
    · simp [hh]
    · have h2 : (a : Int) ≠ (s.size : Int) := by omega
      rw [decide_eq_false hh]; exact beq_eq_false_iff_ne.2 h2
  exact congrArg (fun b => Ending.returned (Value.bool b)) this
end Go.Proofs.YtjaaoljfkbbjpaaGreatDoor
