/-
  EpochTwice: a block waits once at most, is freed once, and is told as freed then. No condition: every list of threads, whoever is inside, freed elsewhere or not.
-/
import Derived.Test.YtiiaajdkkofbjaaYalive
namespace Go.Proofs.Ytiiaajdkkofbjaa
open Go.RowKit Go.Maps
set_option linter.unusedVariables false

def tY0 (i : Bool) (e : Int) : YS := ⟨8, 64, cond i 1 0, [0, 0, 0, 0, 0, 0, 0, 0, e], []⟩
def tY1 (i : Bool) (e t : Int) : YS := ⟨8, 64, cond i 2 1, [0, 0, 0, 0, 0, 0, 0, 0, e], [⟨1, t, cond i 2 1⟩]⟩
def tE (f : Int) : AS := ⟨300, 0, 1, f, []⟩
def tL : AS := ⟨300, 4, 1, 0, [(1, [0, 0, 0, 0])]⟩
theorem tY0_now (i : Bool) (e : Int) : (tY0 i e).now < 4611686018427387904 := by cases i <;> simp [tY0]
theorem tY1_now (i : Bool) (e t : Int) : (tY1 i e t).now < 4611686018427387904 := by cases i <;> simp [tY1]
section
variable {w : World} {X : Nat → Prop} {pa py : Nat} {i : Bool} {e : Int} {S : AS}
abbrev Goes (w : World) (X : Nat → Prop) (pa py : Nat) (c : Int) (Y : YS) (S : AS) (en : Ending) (w' : World) : Prop := en = .returned (.int .i64 c) ∧ Yd w' X pa py Y S ∧ Keep X w w'
theorem tw_bad {Y : YS} (hY : Y.threads = 8) (h : Yd w X pa py Y S) (hn : Y.now < 4611686018427387904) (hX : ∀ k, w.heap.size ≤ k → ¬ X k) (t : Int) (ht : t < 1 ∨ 8 < t) :
    Calls Try.prog 28 #[.pointer (some ⟨py, 0, none⟩), .int .i64 t, .int .i64 1] w (Goes w X pa py 1 Y S) := by
  have h0 := retire_any h hn hX t 1 (by decide)
  have he : Y.retErr S t 1 = 1 := by unfold YS.retErr YS.isT; rw [hY, decide_eq_false (by omega)]; rfl
  have h1 : Y.retAt S t 1 = Y := by unfold YS.retAt; rw [he]; rfl
  have h2 : S.retAt Y t 1 = S := by unfold AS.retAt; rw [he]; rfl
  rw [he, h1, h2] at h0
  exact h0
theorem tw_twice {u : Int} (h : Yd w X pa py (tY1 i e u) S) (hX : ∀ k, w.heap.size ≤ k → ¬ X k) (t : Int) (ht : 1 ≤ t ∧ t ≤ 8) :
    Calls Try.prog 28 #[.pointer (some ⟨py, 0, none⟩), .int .i64 t, .int .i64 1] w (Goes w X pa py 42 (tY1 i e u) S) := by
  have h0 := retire_any h (tY1_now _ _ _) hX t 1 (by decide)
  have he : (tY1 i e u).retErr S t 1 = 42 := by unfold YS.retErr YS.isT; rw [decide_eq_true (p := 1 ≤ t ∧ t ≤ (tY1 i e u).threads) ht]; rfl
  have h1 : (tY1 i e u).retAt S t 1 = (tY1 i e u) := by unfold YS.retAt; rw [he]; rfl
  have h2 : S.retAt (tY1 i e u) t 1 = S := by unfold AS.retAt; rw [he]; rfl
  rw [he, h1, h2] at h0
  exact h0
theorem tw_freed {f : Int} (h : Yd w X pa py (tY0 i e) (tE f)) (hX : ∀ k, w.heap.size ≤ k → ¬ X k) (t : Int) (ht : 1 ≤ t ∧ t ≤ 8) :
    Calls Try.prog 28 #[.pointer (some ⟨py, 0, none⟩), .int .i64 t, .int .i64 1] w (Goes w X pa py 20 (tY0 i e) (tE (wrap64 (f + 1)))) := by
  have h0 := retire_any h (tY0_now _ _) hX t 1 (by decide)
  have he : (tY0 i e).retErr (tE f) t 1 = 20 := by unfold YS.retErr YS.isT; rw [decide_eq_true (p := 1 ≤ t ∧ t ≤ (tY0 i e).threads) ht]; rfl
  have h1 : (tY0 i e).retAt (tE f) t 1 = (tY0 i e) := by unfold YS.retAt; rw [he]; rfl
  have h2 : (tE f).retAt (tY0 i e) t 1 = tE (wrap64 (f + 1)) := by unfold AS.retAt; rw [he]; rfl
  rw [he, h1, h2] at h0
  exact h0
theorem tw_ok (h : Yd w X pa py (tY0 i e) tL) (hX : ∀ k, w.heap.size ≤ k → ¬ X k) (t : Int) (ht : 1 ≤ t ∧ t ≤ 8) :
    Calls Try.prog 28 #[.pointer (some ⟨py, 0, none⟩), .int .i64 t, .int .i64 1] w (Goes w X pa py 0 (tY1 i e t) tL) := by
  have h0 := retire_any h (tY0_now _ _) hX t 1 (by decide)
  have he : (tY0 i e).retErr tL t 1 = 0 := by unfold YS.retErr YS.isT; rw [decide_eq_true (p := 1 ≤ t ∧ t ≤ (tY0 i e).threads) ht]; rfl
  have h1 : (tY0 i e).retAt tL t 1 = (tY1 i e t) := by unfold YS.retAt; rw [he]; cases i <;> rfl
  have h2 : tL.retAt (tY0 i e) t 1 = tL := by unfold AS.retAt; rw [he]; rfl
  rw [he, h1, h2] at h0
  exact h0
/-- Nothing waits: a Sweep does nothing. -/
theorem tw_sweep0 (h : Yd w X pa py (tY0 i e) S) (hX : ∀ k, w.heap.size ≤ k → ¬ X k) : Calls Try.prog 33 #[.pointer (some ⟨py, 0, none⟩)] w (Goes w X pa py 0 (tY0 i e) S) := sweep_any h hX
theorem tw_sweepH {t : Int} (h : Yd w X pa py (tY1 true 1 t) tL) (hX : ∀ k, w.heap.size ≤ k → ¬ X k) : Calls Try.prog 33 #[.pointer (some ⟨py, 0, none⟩)] w (Goes w X pa py 0 (tY1 true 1 t) tL) := sweep_any h hX
theorem tw_sweep1 {t : Int} (h : Yd w X pa py (tY1 i 0 t) tL) (hX : ∀ k, w.heap.size ≤ k → ¬ X k) : Calls Try.prog 33 #[.pointer (some ⟨py, 0, none⟩)] w fun en w' => en = .returned (.int .i64 1) ∧ (∃ Y, Y.wt = [] ∧ Yd w' X pa py Y (tE 0)) ∧ Keep X w w' := by
  refine (sweep_any h hX).mono ?_
  rintro en w' ⟨rfl, h1, h2⟩
  exact ⟨rfl, ⟨_, rfl, h1⟩, h2⟩
theorem tw_sweepN {Y : YS} (h : Yd w X pa py Y S) (hY : Y.wt = []) (hX : ∀ k, w.heap.size ≤ k → ¬ X k) : Calls Try.prog 33 #[.pointer (some ⟨py, 0, none⟩)] w (Goes w X pa py 0 Y S) := by
  have h0 := sweep_any h hX
  have e1 : Y.sweepAt = Y := by obtain ⟨a, b, c, d, wt⟩ := Y; subst hY; rfl
  have e2 : S.sweepAt Y = S := by unfold AS.sweepAt; rw [hY]; rfl
  have e3 : sweepN Y S = 0 := by unfold sweepN; rw [hY]; rfl
  rw [e1, e2, e3] at h0
  exact h0
theorem tw_leave0 (h : Yd w X pa py (tY0 true 1) S) : Calls Try.prog 32 #[.pointer (some ⟨py, 0, none⟩), .int .i64 8] w (Goes w X pa py 0 (tY0 true 0) S) := leave_any h 8
theorem tw_leave1 {t : Int} (h : Yd w X pa py (tY1 true 1 t) S) : Calls Try.prog 32 #[.pointer (some ⟨py, 0, none⟩), .int .i64 8] w (Goes w X pa py 0 (tY1 true 0 t) S) := leave_any h 8
theorem tw_enter (h : Yd w X pa py (tY0 false 0) S) : Calls Try.prog 26 #[.pointer (some ⟨py, 0, none⟩), .int .i64 8] w (Goes w X pa py 0 (tY0 true 1) S) := enter_any h (by decide) 8
theorem tw_new (hX : ∀ k, w.heap.size ≤ k → ¬ X k) : Calls Try.prog 10 #[.int .i64 300] w fun e w' => e = .returned (.pointer (some ⟨w.heap.size + 1, 0, none⟩)) ∧ Arena w' X (w.heap.size + 1) ⟨300, 0, 0, 0, []⟩ ∧ Below w.heap.size w w' := new_any 300 w X hX
theorem tw_ynew (h : Arena w X pa S) (hX : ∀ k, w.heap.size ≤ k → ¬ X k) : Calls Try.prog 23 #[.pointer (some ⟨pa, 0, none⟩), .int .i64 8, .int .i64 64] w fun e w' => e = .returned (.pointer (some ⟨w.heap.size, 0, none⟩)) ∧ Yd w' X pa w.heap.size (tY0 false 0) S ∧ Below w.heap.size w w' := ynew_any h hX 8 64
theorem tw_alloc {Y : YS} (h : Yd w X pa py Y ⟨300, 0, 0, 0, []⟩) (hX : ∀ k, w.heap.size ≤ k → ¬ X k) : Calls Try.prog 24 #[.pointer (some ⟨pa, 0, none⟩), .int .i64 4] w fun e w' => e = .returned (.tuple #[.int .i64 1, .int .i64 0]) ∧ Yd w' X pa py Y tL ∧ Keep X w w' := by
  obtain ⟨Z, ha, hf, hXZ, hb⟩ := h.arena
  refine (alloc_any ha 4 (by decide) (fun k hk => hf k hk (hX k hk))).mono ?_
  rintro e w' ⟨h1, h2, h3⟩
  exact ⟨h1, hb w' _ h2 h3, h3.less hXZ⟩
theorem tw_free1 {Y : YS} (h : Yd w X pa py Y tL) : Calls Try.prog 36 #[.pointer (some ⟨pa, 0, none⟩), .int .i64 1] w (Goes w X pa py 0 Y (tE 0)) := by
  obtain ⟨Z, ha, hf, hXZ, hb⟩ := h.arena
  refine (free_any ha (b := 1) (by decide)).mono ?_
  rintro e w' ⟨h1, h2, h3⟩
  exact ⟨h1, hb w' _ h2 h3, h3.less hXZ⟩
theorem tw_free0 {Y : YS} {f : Int} (h : Yd w X pa py Y (tE f)) : Calls Try.prog 36 #[.pointer (some ⟨pa, 0, none⟩), .int .i64 1] w (Goes w X pa py 20 Y (tE (wrap64 (f + 1)))) := by
  obtain ⟨Z, ha, hf, hXZ, hb⟩ := h.arena
  refine (free_any ha (b := 1) (by decide)).mono ?_
  rintro e w' ⟨h1, h2, h3⟩
  exact ⟨h1, hb w' _ h2 h3, h3.less hXZ⟩
end
end Go.Proofs.Ytiiaajdkkofbjaa
