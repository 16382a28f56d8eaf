/-
  Package lex: what stands next, said quietly; a full stop; a token of one byte. Conditions: a lexer in memory.
-/
import Derived.Test.YtfkbbbjicaedmaaGreatDoorQLx7
import Derived.IntWalk
import Derived.Deep.LoopGhost
import Derived.Deep.QuietTactic
import Derived.BigQuiet
namespace Go.Proofs.YtfkbbbjicaedmaaGreatDoor
open Go.RowKit Go.Shelf Go.Maps
set_option linter.unusedVariables false
set_option linter.unusedSimpArgs false
theorem LxAt.drewN {w : World} {p : Nat} {L : List UInt8} {fr a : Nat} (h : LxAt w p L fr a) (n : Nat) : LxAt (w.drewN n) p L fr a := ⟨h.blk, h.le, h.len⟩
set_option maxRecDepth 100000 in
theorem isOver_q {w : World} {p : Nat} {L : List UInt8} {fr a : Nat} (h : LxAt w p L fr a) : Calls Tryz.prog 82 #[.pointer (some ⟨p, 0, none⟩)] w fun e w' => e = .returned (.bool (decide (a = L.length))) ∧ ∃ m, w' = w.drewN m := by
  have c0 := h.c0
  have c2 := h.c2
  have hs := str_size L
  have hlt := h.blk.lt
  generalize str L = s at *
  go_enter Tryz.func82, Tryz.ntmps82
  go_wp2
  go_region
  go_wp2
  go_ret
  refine ⟨?_, 1, rfl⟩
  rw [← hs]
  have : ((a : Int) == (s.size : Int)) = decide (a = s.size) := by
    by_cases hh : a = s.size
    · simp [hh]
    · have h2 : (a : Int) ≠ (s.size : Int) := by omega
      rw [decide_eq_false hh]; exact beq_eq_false_iff_ne.2 h2
  exact congrArg (fun b => Ending.returned (Value.bool b)) this
set_option maxRecDepth 100000 in
theorem begins_q {w : World} {p : Nat} {L : List UInt8} {fr a : Nat} (h : LxAt w p L fr a) (x : List UInt8) : Calls Tryz.prog 92 #[.pointer (some ⟨p, 0, none⟩), .string (str x)] w fun e w' => e = .returned (.bool (x.isPrefixOf (L.drop a))) ∧ ∃ m, w' = w.drewN m := by
  have c0 := h.c0
  have c2 := h.c2
  have hle := h.le
  have hs := str_size L
  have hd : (str L).extract a L.length = str (L.drop a) := by have h0 := drop_str L a; rwa [str_size] at h0
  have hlt := h.blk.lt
  have hp := fun W => hasPrefix_str W (L.drop a) x
  generalize str (L.drop a) = s1 at *
  generalize str x = s2 at *
  generalize str L = s at *
  go_enter Tryz.func92, Tryz.ntmps92
  go_wp2_with fail
  go_region_with (go_at_call 107; (try rw [hd]); refine (hp _).mono ?_; rintro e w' ⟨rfl, rfl⟩)
  all_goals
    go_wp2_with fail
    go_ret
    exact ⟨rfl, 1, rfl⟩
theorem TokFacts.kept {w : World} {p : Nat} {L : List UInt8} {fr : Nat} {tv ev : Value} {w' : World} {x : R Tk} (h : TokFacts w p L fr tv ev w' x) : Keep (· ≠ p) w w' := by
  cases x with
  | good t n r => exact h.2.2.2.2
  | bad c q => obtain ⟨_, b, _, _, _, hk⟩ := h; exact hk
theorem LxAt.to' {w : World} {p : Nat} {L : List UInt8} {fr a : Nat} (h : LxAt w p L fr a) {b : Nat} {x : Int} (hb : b ≤ L.length) (hx : x = b) : LxAt (w.setCell ⟨p, 2, none⟩ (.int .i64 x)) p L fr b := by subst hx; exact h.to hb
theorem LxAt.drew {w : World} {p : Nat} {L : List UInt8} {fr a : Nat} (h : LxAt w p L fr a) : LxAt w.drew p L fr a := ⟨h.blk.drew, h.le, h.len⟩
theorem str_at {L : List UInt8} {k : Nat} {c : UInt8} {r : List UInt8} (h : L.drop k = c :: r) : k < L.length ∧ L.drop (k + 1) = r ∧ ∀ hk : k < (str L).size, ((str L)[k]'hk) = c := by
  have h1 : k < L.length := by
    rcases Nat.lt_or_ge k L.length with h2 | h2
    · exact h2
    · rw [List.drop_eq_nil_of_le h2] at h; cases h
  refine ⟨h1, ?_, fun hk => ?_⟩
  · rw [← List.drop_drop, h]; rfl
  · have h3 : L[k]? = some c := by rw [← List.head?_drop, h]; rfl
    have : (str L)[k]'hk = (L.toArray)[k]'(by simpa using h1) := rfl
    rw [this]
    simp only [List.getElem_toArray]
    rw [List.getElem?_eq_getElem h1] at h3
    exact Option.some.inj h3
set_option maxRecDepth 100000 in
set_option maxHeartbeats 2000000 in
theorem single_any {w : World} {p : Nat} {L : List UInt8} {a : Nat} (h : LxAt w p L a a) (hlt : a < L.length) (kind : Nat) : Calls Tryz.prog 101 #[.pointer (some ⟨p, 0, none⟩), .int .i64 kind] w
    (TokPost w p L a (oneL kind a (L.drop a))) := by
  have hp := h.blk.lt
  have c2 := h.c2
  have dz := h.blk.frozen 2
  have hlen := h.len
  have h0 : LxAt (w.setCell ⟨p, 2, none⟩ (.int .i64 ((a : Int) + 1))) p L a (a + 1) := h.to' (by omega) (by omega)
  have hk0 := (Keep.refl (· ≠ p) w).setCell (p := ⟨p, 2, none⟩) (by simp) (.int .i64 ((a : Int) + 1))
  have hsz : (w.setCell ⟨p, 2, none⟩ (.int .i64 ((a : Int) + 1))).heap.size = w.heap.size := by simp [World.setCell]
  have h2 := h0.keep ((Keep.refl (fun _ => True) _).alloc (.cells zCells 75)) trivial
  have hk2 := hk0.alloc (.cells zCells 75)
  have hb2 := Blk.new (w.setCell ⟨p, 2, none⟩ (.int .i64 ((a : Int) + 1))) 75 zCells
  rw [hsz] at hb2
  have hr := read_any h2 (by omega)
  rw [show ((L.drop a).take (a + 1 - a)) = (L.drop a).take 1 by rw [show a + 1 - a = 1 by omega]] at hr
  have HR := Lib.hid hr
  have H2 := Lib.hid h2
  have HB := Lib.hid hb2
  have HK := Lib.hid hk2
  clear h h0 hk0 h2 hk2 hb2 hr hsz
  go_enter Tryz.func101, Tryz.ntmps101
  go_wp2_with fail
  refine HR.out.mono ?_
  rintro e w1 ⟨rfl, hk⟩
  have hb := HB.out.keep hk trivial
  have hl1 := H2.out.keep hk trivial
  have hk1 := HK.out.trans (hk.less (Y := (· ≠ p)) (fun _ _ => trivial))
  obtain ⟨t1, ht1⟩ : ∃ t1, str ((L.drop a).take 1) = t1 := ⟨_, rfl⟩
  rw [ht1]
  obtain ⟨b0, b1, b2, b3, b4, b5, z0, z1, z2, z3, z4, z5, hlt2⟩ := hb.six
  simp only [zCells, List.getElem?_toArray, List.getElem?_cons_zero, List.getElem?_cons_succ] at b0 b1 b2 b3 b4 b5
  have Q := Lib.hid (hb.set6 (.int .i64 kind) (.string t1) (.int .i64 0) (.int .i64 0) (.bool false) (.bool false))
  have HS := Lib.hid (keep6 w1 w.heap.size (.int .i64 kind) (.string t1) (.int .i64 0) (.int .i64 0) (.bool false) (.bool false))
  have HL1 := Lib.hid hl1
  have HK1 := Lib.hid hk1
  have HT := Lib.hid ht1
  clear hk hb hl1 hk1 ht1 c2 dz
  go_wp2_with fail
  obtain ⟨q0, q1, q2, q3, q4, q5, _⟩ := Q.out
  simp at q0 q1 q2 q3 q4 q5
  refine bodyPost_ret (v := .tuple #[.agg #[.int .i64 kind, .string t1, .int .i64 0, .int .i64 0, .bool false, .bool false], .nilIface]) (by simp [results, Tryz.results101, go_sem, q0, q1, q2, q3, q4, q5]) rfl ?_
  refine ⟨_, _, rfl, ?_, rfl, ?_, HL1.out.keep HS.out (by omega), ?_⟩
  · rw [← HT.out]; rfl
  · rw [List.drop_drop]
  · have hs := HS.out
    have hk := HK1.out
    exact ⟨hs.os.trans hk.os, hs.tape.trans hk.tape, hs.output.trans hk.output, Nat.le_trans hk.size hs.size, fun k hk' hX => (hs.block k (Nat.lt_of_lt_of_le hk' hk.size) (by omega)).trans (hk.block k hk' hX)⟩
end Go.Proofs.YtfkbbbjicaedmaaGreatDoor
