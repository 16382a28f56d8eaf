/-
  Package lex: kinds of bytes; what stands next in the text; a lexer in memory. No condition.
-/
import Derived.Test.YtfkbbbjicaedmaaGreatDoorQLx0
import Derived.Test.YtfkbbbjicaedmaaGreatDoorQMA
import Derived.Test.YtfkbbbjicaedmaaGreatDoorLayd
import Derived.Lib.Hide
import Derived.StillTailTactics
import Derived.Shelf.Strings.Cut
import Derived.Shelf.Strings.Prefix
import Derived.Shelf.Small.Strs
import Derived.Shelf.Strconv.Clone
import Derived.Test.YtfkbbbjicaedmaaGreatDoorProg
import Derived.WalkKit
import Derived.LaidEql
import Derived.Stop.Asserts
import Derived.RowKitTokens
import Derived.Deep.LoopGhost
import Derived.Defers
import Derived.Recover
import Derived.Below
namespace Go.Proofs.YtfkbbbjicaedmaaGreatDoor
open Go.RowKit Go.Shelf Go.Maps
set_option linter.unusedVariables false
set_option linter.unusedSimpArgs false
def byteV (c : UInt8) : Value := .int .u8 (c.toNat : Int)
theorem of_all256 {f g : UInt8 → Bool} (h : ∀ n : Fin 256, f (UInt8.ofNat n.val) = g (UInt8.ofNat n.val)) (c : UInt8) : f c = g c := by
  have := h ⟨c.toNat, c.toNat_lt⟩
  simpa using this
theorem idx_blank (c : UInt8) : decide (0 ≤ Lib.indexByte [9, 10, 13, 32] c) = blankB c := of_all256 (f := fun c => decide (0 ≤ Lib.indexByte [9, 10, 13, 32] c)) (by decide +kernel) c
theorem idx_sign (c : UInt8) : decide (0 ≤ Lib.indexByte [43, 45, 42, 47, 92, 94, 60, 62, 61, 126, 58, 46, 63, 64, 35, 38, 36] c) = signB c := of_all256 (f := fun c => decide (0 ≤ Lib.indexByte [43, 45, 42, 47, 92, 94, 60, 62, 61, 126, 58, 46, 63, 64, 35, 38, 36] c)) (by decide +kernel) c
theorem idx_punct (c : UInt8) : decide (0 ≤ Lib.indexByte [40, 41, 91, 93, 123, 125, 44, 124] c) = punctB c := of_all256 (f := fun c => decide (0 ≤ Lib.indexByte [40, 41, 91, 93, 123, 125, 44, 124] c)) (by decide +kernel) c
theorem toU8 (c : UInt8) : ((c.toNat : Int)).toNat.toUInt8 = c := by simp
set_option maxRecDepth 100000 in
set_option maxHeartbeats 1000000 in
theorem isBlank_any (c : UInt8) (w : World) : Calls Tryz.prog 91 #[byteV c] w fun e w' => e = .returned (.bool (blankB c)) ∧ w' = w := by
  have hi := fun W => Any.strings_IndexByte Tryz.idxB ⟨#[9, 10, 13, 32]⟩ (c.toNat : Int) W
  rw [toU8] at hi
  have hb := idx_blank c
  unfold byteV
  go_enter Tryz.func91, Tryz.ntmps91
  go_wp2_with fail
  refine (hi _).mono ?_
  rintro e w' ⟨rfl, rfl⟩
  go_wp2_with fail
  go_ret
  exact ⟨rfl, rfl⟩
set_option maxRecDepth 100000 in
set_option maxHeartbeats 1000000 in
theorem lsign_any (c : UInt8) (w : World) : Calls Tryz.prog 104 #[byteV c] w fun e w' => e = .returned (.bool (signB c)) ∧ w' = w := by
  have hi := fun W => Any.strings_IndexByte Tryz.idxB ⟨#[43, 45, 42, 47, 92, 94, 60, 62, 61, 126, 58, 46, 63, 64, 35, 38, 36]⟩ (c.toNat : Int) W
  rw [toU8] at hi
  have hb := idx_sign c
  unfold byteV
  go_enter Tryz.func104, Tryz.ntmps104
  go_wp2_with fail
  refine (hi _).mono ?_
  rintro e w' ⟨rfl, rfl⟩
  go_wp2_with fail
  go_ret
  exact ⟨rfl, rfl⟩
set_option maxRecDepth 100000 in
set_option maxHeartbeats 1000000 in
theorem isPunct_any (c : UInt8) (w : World) : Calls Tryz.prog 100 #[byteV c] w fun e w' => e = .returned (.bool (punctB c)) ∧ w' = w := by
  have hi := fun W => Any.strings_IndexByte Tryz.idxB ⟨#[40, 41, 91, 93, 123, 125, 44, 124]⟩ (c.toNat : Int) W
  rw [toU8] at hi
  have hb := idx_punct c
  unfold byteV
  go_enter Tryz.func100, Tryz.ntmps100
  go_wp2_with fail
  refine (hi _).mono ?_
  rintro e w' ⟨rfl, rfl⟩
  go_wp2_with fail
  go_ret
  exact ⟨rfl, rfl⟩
theorem small_int (c : UInt8) : smallB c = (decide ((97 : Int) ≤ c.toNat) && decide ((c.toNat : Int) ≤ 122)) := by
  exact of_all256 (f := smallB) (g := fun c => (decide ((97 : Int) ≤ c.toNat) && decide ((c.toNat : Int) ≤ 122))) (by decide +kernel) c
theorem cap_int (c : UInt8) : capB c = ((decide ((65 : Int) ≤ c.toNat) && decide ((c.toNat : Int) ≤ 90)) || decide ((c.toNat : Int) = 95)) := by
  exact of_all256 (f := capB) (g := fun c => ((decide ((65 : Int) ≤ c.toNat) && decide ((c.toNat : Int) ≤ 90)) || decide ((c.toNat : Int) = 95))) (by decide +kernel) c
theorem dig_int (c : UInt8) : digB c = (decide ((48 : Int) ≤ c.toNat) && decide ((c.toNat : Int) ≤ 57)) := by
  exact of_all256 (f := digB) (g := fun c => (decide ((48 : Int) ≤ c.toNat) && decide ((c.toNat : Int) ≤ 57))) (by decide +kernel) c
set_option maxRecDepth 100000 in
theorem isSmall_any (c : UInt8) (w : World) : Calls Tryz.prog 94 #[byteV c] w fun e w' => e = .returned (.bool (smallB c)) ∧ w' = w := by
  have hb := small_int c
  unfold byteV
  generalize (c.toNat : Int) = n at *
  by_cases h1 : (97 : Int) ≤ n
  · have hb2 : smallB c = decide (n ≤ 122) := by rw [hb]; simp [h1]
    rw [hb2]
    go_enter Tryz.func94, Tryz.ntmps94
    go_wp2
    go_ret
    exact ⟨rfl, rfl⟩
  · have hb2 : smallB c = false := by rw [hb]; simp [h1]
    rw [hb2]
    go_enter Tryz.func94, Tryz.ntmps94
    go_wp2
    go_ret
    exact ⟨rfl, rfl⟩
set_option maxRecDepth 100000 in
theorem isDigit_any (c : UInt8) (w : World) : Calls Tryz.prog 98 #[byteV c] w fun e w' => e = .returned (.bool (digB c)) ∧ w' = w := by
  have hb := dig_int c
  unfold byteV
  generalize (c.toNat : Int) = n at *
  by_cases h1 : (48 : Int) ≤ n
  · have hb2 : digB c = decide (n ≤ 57) := by rw [hb]; simp [h1]
    rw [hb2]
    go_enter Tryz.func98, Tryz.ntmps98
    go_wp2
    go_ret
    exact ⟨rfl, rfl⟩
  · have hb2 : digB c = false := by rw [hb]; simp [h1]
    rw [hb2]
    go_enter Tryz.func98, Tryz.ntmps98
    go_wp2
    go_ret
    exact ⟨rfl, rfl⟩
set_option maxRecDepth 100000 in
theorem isCapital_any (c : UInt8) (w : World) : Calls Tryz.prog 96 #[byteV c] w fun e w' => e = .returned (.bool (capB c)) ∧ w' = w := by
  have hb := cap_int c
  unfold byteV
  generalize (c.toNat : Int) = n at *
  by_cases h1 : (65 : Int) ≤ n
  · by_cases h2 : n ≤ 90
    · have hb2 : capB c = true := by rw [hb]; simp [h1, h2]
      rw [hb2]
      go_enter Tryz.func96, Tryz.ntmps96
      go_wp2
      go_ret
      exact ⟨rfl, rfl⟩
    · have hb2 : capB c = decide (n = 95) := by rw [hb]; simp [h2]
      rw [hb2]
      go_enter Tryz.func96, Tryz.ntmps96
      go_wp2
      go_ret
      exact ⟨rfl, rfl⟩
  · have hb2 : capB c = decide (n = 95) := by rw [hb]; simp [h1]
    rw [hb2]
    go_enter Tryz.func96, Tryz.ntmps96
    go_wp2
    go_ret
    exact ⟨rfl, rfl⟩
set_option maxRecDepth 100000 in
set_option maxHeartbeats 1000000 in
theorem isLetter_any (c : UInt8) (w : World) : Calls Tryz.prog 109 #[byteV c] w fun e w' => e = .returned (.bool (letB c)) ∧ w' = w := by
  have h1 := fun W => isSmall_any c W
  have h2 := fun W => isCapital_any c W
  have h3 := fun W => isDigit_any c W
  have hl : (smallB c || (capB c || digB c)) = letB c := rfl
  unfold byteV at *
  generalize (c.toNat : Int) = n at *
  generalize letB c = l at *
  generalize smallB c = a at *
  generalize capB c = b at *
  generalize digB c = d at *
  subst hl
  go_enter Tryz.func109, Tryz.ntmps109
  cases a <;> cases b <;>
  · go_wp2_with (first
      | (go_at_call 94; refine (h1 _).mono ?_; rintro e w' ⟨rfl, rfl⟩)
      | (go_at_call 96; refine (h2 _).mono ?_; rintro e w' ⟨rfl, rfl⟩)
      | (go_at_call 98; refine (h3 _).mono ?_; rintro e w' ⟨rfl, rfl⟩))
    go_ret
    exact ⟨by simp, rfl⟩
structure LxAt (w : World) (p : Nat) (L : List UInt8) (fr a : Nat) : Prop where
  blk : Blk w p 114 #[.string (str L), .int .i64 fr, .int .i64 a]
  le : a ≤ L.length
  len : L.length ≤ 16384
theorem LxAt.keep {X : Nat → Prop} {w w' : World} {p : Nat} {L : List UInt8} {fr a : Nat} (h : LxAt w p L fr a) (hk : Keep X w w') (hX : X p) : LxAt w' p L fr a := ⟨h.blk.keep hk hX, h.le, h.len⟩
theorem LxAt.c0 {w : World} {p : Nat} {L : List UInt8} {fr a : Nat} (h : LxAt w p L fr a) : w.cell? ⟨p, 0, none⟩ = some (.string (str L)) := h.blk.cell 0
theorem LxAt.c1 {w : World} {p : Nat} {L : List UInt8} {fr a : Nat} (h : LxAt w p L fr a) : w.cell? ⟨p, 1, none⟩ = some (.int .i64 fr) := h.blk.cell 1
theorem LxAt.c2 {w : World} {p : Nat} {L : List UInt8} {fr a : Nat} (h : LxAt w p L fr a) : w.cell? ⟨p, 2, none⟩ = some (.int .i64 a) := h.blk.cell 2
theorem LxAt.to {w : World} {p : Nat} {L : List UInt8} {fr a : Nat} (h : LxAt w p L fr a) {b : Nat} (hb : b ≤ L.length) : LxAt (w.setCell ⟨p, 2, none⟩ (.int .i64 b)) p L fr b := ⟨h.blk.set_ 2 _, hb, h.len⟩
theorem drop_str (L : List UInt8) (a : Nat) : (str L).extract a (str L).size = str (L.drop a) := by
  apply ByteArray.ext
  simp [str, ByteArray.size]
  exact List.take_of_length_le (by simp)
set_option maxRecDepth 100000 in
theorem isOver_any {w : World} {p : Nat} {L : List UInt8} {fr a : Nat} (h : LxAt w p L fr a) : Calls Tryz.prog 82 #[.pointer (some ⟨p, 0, none⟩)] w fun e w' => e = .returned (.bool (decide (a = L.length))) ∧ Keep (fun _ => True) w w' := by
  have c0 := h.c0
  have c2 := h.c2
  have hs := str_size L
  have hlt := h.blk.lt
  have HK := Lib.hid (Keep.refl (fun _ => True) w)
  generalize str L = s at *
  go_enter Tryz.func82, Tryz.ntmps82
  go_wp2
  go_region
  go_wp2
  go_ret
  refine ⟨?_, HK.out.drew⟩
  rw [← hs]
  have : ((a : Int) == (s.size : Int)) = decide (a = s.size) := by
    by_cases hh : a = s.size
    · simp [hh]
    · have h2 : (a : Int) ≠ (s.size : Int) := by omega
      rw [decide_eq_false hh]; exact beq_eq_false_iff_ne.2 h2
  exact congrArg (fun b => Ending.returned (Value.bool b)) this
end Go.Proofs.YtfkbbbjicaedmaaGreatDoor
namespace Go.Proofs.YtfkbbbjicaedmaaGreatDoor
open Go.RowKit Go.Extern.Stop Go.Stop Go.Extern
theorem lt_cell {w : World} {a : Addr} {v : Value} (h : w.cell? a = some v) : a.block < w.heap.size := by
  rcases Nat.lt_or_ge a.block w.heap.size with h1 | h1
  · exact h1
  · simp [World.cell?, Array.getElem?_eq_none h1] at h
end Go.Proofs.YtfkbbbjicaedmaaGreatDoor
namespace Go.Proofs.YtfkbbbjicaedmaaGreatDoor
open Go.RowKit Go.Extern.Stop Go.Stop Go.Extern
theorem new_some (code at' : Int) (h : ¬ code = 0) (w : World) : Calls Tryz.prog 80 #[.int .i64 code, .int .i64 at'] w
    fun e w' => e = .returned (.iface 122 (.pointer (some ⟨w.heap.size, 0, none⟩))) ∧ w' = w.alloc (.cells #[.int .i64 code, .int .i64 at'] 124) := by
  go_enter Tryz.func80, Tryz.ntmps80
  go_wp2
  go_ret
  exact ⟨rfl, rfl⟩
end Go.Proofs.YtfkbbbjicaedmaaGreatDoor
namespace Go.Proofs.YtfkbbbjicaedmaaGreatDoor
open Go.RowKit Go.Shelf Go.Maps
set_option linter.unusedVariables false
set_option linter.unusedSimpArgs false
theorem hasPrefix_str (w : World) (l x : List UInt8) : Calls Tryz.prog 107 #[.string (str l), .string (str x)] w fun e w' => e = .returned (.bool (x.isPrefixOf l)) ∧ w' = w := by
  have := Any.strings_HasPrefix Tryz.hasP (str l) (str x) w
  rw [str_data, str_data] at this
  exact this
set_option maxRecDepth 100000 in
theorem begins_any {w : World} {p : Nat} {L : List UInt8} {fr a : Nat} (h : LxAt w p L fr a) (x : List UInt8) : Calls Tryz.prog 92 #[.pointer (some ⟨p, 0, none⟩), .string (str x)] w fun e w' => e = .returned (.bool (x.isPrefixOf (L.drop a))) ∧ Keep (fun _ => True) w w' := by
  have c0 := h.c0
  have c2 := h.c2
  have hle := h.le
  have hs := str_size L
  have hd : (str L).extract a L.length = str (L.drop a) := by have h0 := drop_str L a; rwa [str_size] at h0
  have hlt := h.blk.lt
  have HK := Lib.hid (Keep.refl (fun _ => True) w)
  have hp := fun W => hasPrefix_str W (L.drop a) x
  generalize str (L.drop a) = s1 at *
  generalize str x = s2 at *
  generalize str L = s at *
  go_enter Tryz.func92, Tryz.ntmps92
  go_wp2_with fail
  go_region_with (go_at_call 107; (try rw [hd]); refine (hp _).mono ?_; rintro e w' ⟨rfl, rfl⟩)
  all_goals
    go_wp2_with fail
    go_ret
    exact ⟨rfl, HK.out.drew⟩
theorem take_str (L : List UInt8) (f a : Nat) : (str L).extract f a = str ((L.drop f).take (a - f)) := by
  apply ByteArray.ext
  simp [str]
theorem keep_below {w w' : World} (h : Below w.heap.size w w') : Keep (fun _ => True) w w' := ⟨h.os, h.tape, h.output, h.size, fun k hk _ => h.block k hk⟩
set_option maxRecDepth 100000 in
theorem clone_str (s : ByteArray) (hs : s.size ≤ 281474976710656) (w : World) : Calls Tryz.prog 118 #[.string s] w fun e w' => e = .returned (.string s) ∧ Keep (fun _ => True) w w' := by
  have hc := fun W => Any.stringslite_Clone Tryz.cloS s W hs
  go_enter Tryz.func118, Tryz.ntmps118
  go_wp2_with fail
  refine (hc _).mono ?_
  rintro e w' ⟨rfl, hb⟩
  have HB := Lib.hid hb
  clear hb
  go_wp2_with fail
  go_ret
  exact ⟨rfl, keep_below HB.out⟩
set_option maxRecDepth 100000 in
set_option maxHeartbeats 1000000 in
theorem read_any {w : World} {p : Nat} {L : List UInt8} {fr a : Nat} (h : LxAt w p L fr a) (hf : fr ≤ a) : Calls Tryz.prog 111 #[.pointer (some ⟨p, 0, none⟩)] w fun e w' => e = .returned (.string (str ((L.drop fr).take (a - fr)))) ∧ Keep (fun _ => True) w w' := by
  have c0 := h.c0
  have c1 := h.c1
  have c2 := h.c2
  have hle := h.le
  have hs := str_size L
  have hd := take_str L fr a
  have hlt := h.blk.lt
  have HK := Lib.hid (Keep.refl (fun _ => True) w)
  have hp := fun W => clone_str (str ((L.drop fr).take (a - fr))) (by have := h.len; rw [str_size, List.length_take, List.length_drop]; omega) W
  generalize str ((L.drop fr).take (a - fr)) = s1 at *
  generalize str L = s at *
  have hf' : (fr : Int) ≤ a := by omega
  have hle' : (a : Int) ≤ L.length := by omega
  go_enter Tryz.func111, Tryz.ntmps111
  go_wp2_with fail
  go_region_with (go_at_call 118; (try rw [hd]); refine (hp _).mono ?_; rintro e w' ⟨rfl, hk⟩; have HK2 := Lib.hid (HK.out.drew.trans hk); clear hk)
  all_goals
    go_wp2_with fail
    go_ret
    exact ⟨rfl, HK2.out⟩
def FaultAt (w : World) (b : Nat) (c q : Nat) : Prop := Blk w b 124 #[.int .i64 c, .int .i64 q]
def faultV (b : Nat) : Value := .iface 122 (.pointer (some ⟨b, 0, none⟩))
theorem new_any (c q : Nat) (hc : c ≠ 0) (w : World) : Calls Tryz.prog 80 #[.int .i64 c, .int .i64 q] w fun e w' => e = .returned (faultV w.heap.size) ∧ FaultAt w' w.heap.size c q ∧ Keep (fun _ => True) w w' :=
  (new_some (c : Int) (q : Int) (by omega) w).mono fun e w' ⟨h1, h2⟩ => by
    subst h2
    exact ⟨h1, Blk.new w _ _, (Keep.refl _ w).alloc _⟩
def tkV (t : Tk) : Value := .agg #[.int .i64 t.kind, .string (str t.text), .int .i64 t.int, .int .i64 0, .bool t.quoted, .bool false]
def noTk : Value := .agg #[.int .i64 0, .string ⟨#[]⟩, .int .i64 0, .int .i64 0, .bool false, .bool false]
abbrev zCells : Array Value := #[.int .i64 0, .string ⟨#[]⟩, .int .i64 0, .int .i64 0, .bool false, .bool false]
def TokFacts (w : World) (p : Nat) (L : List UInt8) (fr : Nat) (tv ev : Value) (w' : World) : R Tk → Prop
  | .good t n r => tv = tkV t ∧ ev = .nilIface ∧ r = L.drop n ∧ LxAt w' p L fr n ∧ Keep (· ≠ p) w w'
  | .bad c q => tv = noTk ∧ ∃ b, ev = faultV b ∧ FaultAt w' b c q ∧ w.heap.size ≤ b ∧ Keep (· ≠ p) w w'
structure TokIs (tv : Value) : Prop where
  is : ∃ (x0 : Int) (x1 : ByteArray) (x2 : Int) (x4 : Bool), tv = .agg #[.int .i64 x0, .string x1, .int .i64 x2, .int .i64 0, .bool x4, .bool false]
theorem TokIs.of {w : World} {p : Nat} {L : List UInt8} {fr : Nat} {tv ev : Value} {w' : World} {x : R Tk} (h : TokFacts w p L fr tv ev w' x) : TokIs tv := by
  cases x with
  | good t n r => exact ⟨_, _, _, _, h.1⟩
  | bad c q => exact ⟨_, _, _, _, h.1⟩
def TokPost (w : World) (p : Nat) (L : List UInt8) (fr : Nat) (x : R Tk) (e : Ending) (w' : World) : Prop := ∃ tv ev, e = .returned (.tuple #[tv, ev]) ∧ TokFacts w p L fr tv ev w' x
theorem TokFacts.far {w w0 w1 w2 : World} {p : Nat} {L : List UInt8} {fr : Nat} {tv ev : Value} {x : R Tk} {r : Nat} (h : TokFacts w0 p L fr tv ev w1 x) (hk : Keep (· ≠ p) w w0) (hr : w.heap.size ≤ r) (hr2 : r < w0.heap.size) (hp : p < w.heap.size) (h2 : Keep (· ≠ r) w1 w2) : TokFacts w p L fr tv ev w2 x := by
  have key : ∀ k1 : Keep (· ≠ p) w0 w1, Keep (· ≠ p) w w2 := fun k1 => by
    refine ⟨h2.os.trans ((hk.trans k1).os), h2.tape.trans (hk.trans k1).tape, h2.output.trans (hk.trans k1).output, Nat.le_trans (hk.trans k1).size h2.size, fun k hk' hX => ?_⟩
    exact (h2.block k (Nat.lt_of_lt_of_le hk' (hk.trans k1).size) (by omega)).trans ((hk.trans k1).block k hk' hX)
  cases x with
  | good t n r' =>
    obtain ⟨h1, h3, h4, h5, h6⟩ := h
    exact ⟨h1, h3, h4, h5.keep h2 (by omega), key h6⟩
  | bad c q =>
    obtain ⟨h1, b, h3, h4, h5, h6⟩ := h
    exact ⟨h1, b, h3, Blk.keep h4 h2 (by omega), by have := hk.size; omega, key h6⟩
theorem keep6 (w : World) (r : Nat) (a b c d e f : Value) : Keep (· ≠ r) w ((((((w.setCell ⟨r, 0, none⟩ a).setCell ⟨r, 1, none⟩ b).setCell ⟨r, 2, none⟩ c).setCell ⟨r, 3, none⟩ d).setCell ⟨r, 4, none⟩ e).setCell ⟨r, 5, none⟩ f) := by
  have hx : ¬ (r ≠ r) := by simp
  exact ((((((Keep.refl _ w).setCell hx _).setCell hx _).setCell hx _).setCell hx _).setCell hx _).setCell hx _
structure Six (w : World) (r : Nat) (u : Array Value) : Prop where
  c0 : w.cell? ⟨r, 0, none⟩ = u[0]?
  c1 : w.cell? ⟨r, 1, none⟩ = u[1]?
  c2 : w.cell? ⟨r, 2, none⟩ = u[2]?
  c3 : w.cell? ⟨r, 3, none⟩ = u[3]?
  c4 : w.cell? ⟨r, 4, none⟩ = u[4]?
  c5 : w.cell? ⟨r, 5, none⟩ = u[5]?
  z0 : w.frozen? ⟨r, 0, none⟩ = false
  z1 : w.frozen? ⟨r, 1, none⟩ = false
  z2 : w.frozen? ⟨r, 2, none⟩ = false
  z3 : w.frozen? ⟨r, 3, none⟩ = false
  z4 : w.frozen? ⟨r, 4, none⟩ = false
  z5 : w.frozen? ⟨r, 5, none⟩ = false
  lt : r < w.heap.size
theorem Blk.six {w : World} {r : Nat} {t : TypeId} {u : Array Value} (h : Blk w r t u) : Six w r u := ⟨h.cell 0, h.cell 1, h.cell 2, h.cell 3, h.cell 4, h.cell 5, h.frozen 0, h.frozen 1, h.frozen 2, h.frozen 3, h.frozen 4, h.frozen 5, h.lt⟩
theorem Blk.set6 {w : World} {r : Nat} {t : TypeId} {x0 x1 x2 x3 x4 x5 : Value} (h : Blk w r t #[x0, x1, x2, x3, x4, x5]) (a b c d e f : Value) : Six ((((((w.setCell ⟨r, 0, none⟩ a).setCell ⟨r, 1, none⟩ b).setCell ⟨r, 2, none⟩ c).setCell ⟨r, 3, none⟩ d).setCell ⟨r, 4, none⟩ e).setCell ⟨r, 5, none⟩ f) r #[a, b, c, d, e, f] :=
  ((((((h.set_ 0 a).set_ 1 b).set_ 2 c).set_ 3 d).set_ 4 e).set_ 5 f).six
set_option maxRecDepth 100000 in
set_option maxHeartbeats 1000000 in
theorem named_any {w : World} {p : Nat} {L : List UInt8} {fr a : Nat} (h : LxAt w p L fr a) (kind : Nat) (nm : List UInt8) : Calls Tryz.prog 110 #[.pointer (some ⟨p, 0, none⟩), .int .i64 kind, .string (str nm)] w
    (TokPost w p L fr (if 64 < nm.length then .bad 2 fr else .good ⟨kind, nm, 0, false⟩ a (L.drop a))) := by
  have c1 := h.c1
  have hlt := h.blk.lt
  have HK := Lib.hid (Keep.refl (· ≠ p) w)
  have HL := Lib.hid h
  have hs := str_size nm
  by_cases h64 : nm.length ≤ 64
  · have hz : ¬ (64 < nm.length) := by omega
    rw [if_neg hz]
    have h64' : ¬ ((64 : Int) < (str nm).size) := by omega
    have htk : tkV ⟨kind, nm, 0, false⟩ = .agg #[.int .i64 kind, .string (str nm), .int .i64 0, .int .i64 0, .bool false, .bool false] := rfl
    have HT := Lib.hid htk
    clear htk h
    generalize str nm = s at *
    go_enter Tryz.func110, Tryz.ntmps110
    go_wp2_with fail
    refine bodyPost_ret (v := .tuple #[.agg #[.int .i64 kind, .string s, .int .i64 0, .int .i64 0, .bool false, .bool false], .nilIface]) (by simp [results, Tryz.results110, go_sem]) rfl ?_
    exact ⟨_, _, rfl, HT.out.symm, rfl, rfl, HL.out.keep ((Keep.refl (fun _ => True) w).alloc _) trivial, HK.out.alloc _⟩
  · have hz : 64 < nm.length := by omega
    rw [if_pos hz]
    have h64' : ((64 : Int) < (str nm).size) := by omega
    have hn := fun W => new_any 2 fr (by decide) W
    clear h
    generalize str nm = s at *
    go_enter Tryz.func110, Tryz.ntmps110
    go_wp2_with fail
    refine (hn _).mono ?_
    rintro e w1 ⟨rfl, hF, hk⟩
    have hb := (Blk.new w 75 zCells).keep hk trivial
    obtain ⟨b0, b1, b2, b3, b4, b5, z0, z1, z2, z3, z4, z5, hlt1⟩ := hb.six
    simp only [zCells, List.getElem?_toArray, List.getElem?_cons_zero, List.getElem?_cons_succ] at b0 b1 b2 b3 b4 b5
    have hne : w.heap.size + 1 ≠ w.heap.size := by omega
    have HF := Lib.hid hF; have HK1 := Lib.hid hk
    have Q := Lib.hid (hb.set6 (.int .i64 0) (.string ⟨#[]⟩) (.int .i64 0) (.int .i64 0) (.bool false) (.bool false))
    have HS := Lib.hid (keep6 w1 w.heap.size (.int .i64 0) (.string ⟨#[]⟩) (.int .i64 0) (.int .i64 0) (.bool false) (.bool false))
    clear hF hk hb
    unfold faultV
    go_wp2_with fail
    obtain ⟨q0, q1, q2, q3, q4, q5, _⟩ := Q.out
    simp at q0 q1 q2 q3 q4 q5
    refine bodyPost_ret (v := .tuple #[noTk, faultV (w.heap.size + 1)]) (by simp [results, Tryz.results110, go_sem, noTk, faultV, q0, q1, q2, q3, q4, q5]) rfl ?_
    have hs1 : (w.alloc (.cells #[.int .i64 0, .string ⟨#[]⟩, .int .i64 0, .int .i64 0, .bool false, .bool false] 75)).heap.size = w.heap.size + 1 := by simp
    have hF := HF.out
    rw [hs1] at hF
    have hT : TokFacts (w.alloc (.cells #[.int .i64 0, .string ⟨#[]⟩, .int .i64 0, .int .i64 0, .bool false, .bool false] 75)) p L fr noTk (faultV (w.heap.size + 1)) w1 (.bad 2 fr) := ⟨rfl, _, rfl, hF, by rw [hs1]; omega, HK1.out.less (fun _ _ => trivial)⟩
    exact ⟨_, _, rfl, hT.far (HK.out.alloc _) (Nat.le_refl _) (by simp) hlt HS.out⟩
end Go.Proofs.YtfkbbbjicaedmaaGreatDoor
