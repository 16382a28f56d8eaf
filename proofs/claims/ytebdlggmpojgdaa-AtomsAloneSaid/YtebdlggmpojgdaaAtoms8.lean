/-
  Package atoms in memory: an operation; with, end, decide, readMark. Conditions: the table's block is live.
-/
import Derived.Test.YtebdlggmpojgdaaAtoms7
namespace Go.Proofs.Ytebdlggmpojgdaa
open Go.RowKit Go.Maps
set_option linter.unusedVariables false

/-- An operation's cells. -/
def ocells (pt : Nat) (o : OS) (s : ByteArray) : Array Value :=
  #[.pointer (some ⟨pt, 0, none⟩), .int .i64 o.next, .string s, .int .i64 o.list, .int .i64 o.seen, .int .i64 o.behind, .int .i64 o.head, .int .i64 o.past, .int .i64 o.at_, .int .i64 o.block, .bool o.full, .int .i64 o.id, .int .i64 o.err]
/-- A structure, so that no walk lays it open. -/
structure OHead (w : World) (po pt : Nat) (o : OS) (s : ByteArray) : Prop where
  blk : Blk w po 88 (ocells pt o s)

theorem with_any (m b : Int) (m0 : 0 ≤ m) (m1 : mCnt m < 32767) (b0 : 0 ≤ b) (b1 : b < 281474976710656) (w : World) : Calls Try.prog 80 #[.int .i64 m, .int .i64 b] w fun e w' => e = .returned (.int .i64 (mWith m b)) ∧ w = w' := by
  have hc := count_any m w
  have hm : 0 ≤ mCnt m := by unfold mCnt; omega
  have hw := with_bits (mCnt m) b hm m1 b0 b1
  unfold mWith
  generalize mCnt m = c at hc hm m1 hw ⊢
  have HC := Lib.hid hc; clear hc
  have h1 : IntKind.i64.wrap (c + 1) = c + 1 := by rw [IntKind.wrap_i64]; omega
  have h2 : IntKind.i64.wrap ((c + 1) * 281474976710656) = (c + 1) * 281474976710656 := by rw [IntKind.wrap_i64]; omega
  go_enter Try.func80, Try.ntmps80
  go_wp2_with (go_at_call 49; refine HC.out.mono ?_; rintro e w' ⟨rfl, rfl⟩)
  go_ret
  exact ⟨rfl, rfl⟩

section
variable {w : World} {po pt : Nat} {o : OS} {s : ByteArray}
theorem OHead.cell (h : OHead w po pt o s) (i : Nat) : w.cell? ⟨po, i, none⟩ = (ocells pt o s)[i]? := h.blk.cell i
theorem OHead.thaw (h : OHead w po pt o s) (i : Nat) : w.frozen? ⟨po, i, none⟩ = false := h.blk.frozen i
theorem OHead.put (h : OHead w po pt o s) (i : Nat) (u : Value) {o' : OS} (e : (ocells pt o s).setIfInBounds i u = ocells pt o' s) : OHead (w.setCell ⟨po, i, none⟩ u) po pt o' s := by
  have := h.blk.set_ i u; rw [e] at this; exact ⟨this⟩
theorem okeep (w : World) (po i : Nat) (u : Value) : Keep (· ≠ po) w (w.setCell ⟨po, i, none⟩ u) := (Keep.refl _ w).setCell (fun h => h rfl) u
set_option maxHeartbeats 400000 in
theorem end_any (h : OHead w po pt o s) (id err : Int) :
    Calls Try.prog 37 #[.pointer (some ⟨po, 0, none⟩), .int .i64 id, .int .i64 err] w fun e w' => e = .returned (.tuple #[]) ∧ OHead w' po pt (o.fin id err) s ∧ Keep (· ≠ po) w w' := by
  have z11 := h.thaw 11
  have r1 : OHead (w.setCell ⟨po, 11, none⟩ (.int .i64 id)) po pt { o with id := id } s := h.put 11 _ (by simp [ocells])
  have r2 := r1.put 12 (.int .i64 err) (o' := { o with id := id, err := err }) (by simp [ocells])
  have r3 := r2.put 1 (.int .i64 10) (o' := { o with id := id, err := err, next := 10 }) (by simp [ocells])
  have r4 := r3.put 1 (.int .i64 9) (o' := { o with id := id, err := err, next := 9 }) (by simp [ocells])
  have z1 := h.thaw 1
  have z12 := h.thaw 12
  have f9 := h.cell 9
  have f1 := h.cell 1
  have f11 := h.cell 11
  have f12 := h.cell 12
  simp only [ocells, List.getElem?_toArray, List.getElem?_cons_zero, List.getElem?_cons_succ] at f9 f1 f11 f12
  have k3 := ((okeep w po 11 (.int .i64 id)).trans (okeep _ po 12 (.int .i64 err))).trans (okeep _ po 1 (.int .i64 10))
  have k4 := k3.trans (okeep _ po 1 (.int .i64 9))
  have R3 := Lib.hid r3; have R4 := Lib.hid r4; have K3 := Lib.hid k3; have K4 := Lib.hid k4
  clear r1 r2 r3 r4 k3 k4 h
  by_cases hb : o.block = 0
  · have e : o.fin id err = { o with id := id, err := err, next := 10 } := by unfold OS.fin; rw [if_pos hb]
    rw [e]
    rw [hb] at f9
    go_enter Try.func37, Try.ntmps37
    go_wp2_with fail
    exact bodyPost_end (results_none rfl _ _ _) rfl ⟨rfl, R3.out, K3.out⟩
  · have e : o.fin id err = { o with id := id, err := err, next := 9 } := by unfold OS.fin; rw [if_neg hb]
    rw [e]
    have hne : (o.block == 0) = false := by simpa using hb
    go_enter Try.func37, Try.ntmps37
    go_wp2_with fail
    exact bodyPost_end (results_none rfl _ _ _) rfl ⟨rfl, R4.out, K4.out⟩
end
end Go.Proofs.Ytebdlggmpojgdaa
