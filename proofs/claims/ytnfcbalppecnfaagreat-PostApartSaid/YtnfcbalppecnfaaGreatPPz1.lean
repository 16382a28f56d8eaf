/-
  The document's post where no queue is: what its calls answer; whether a term is small; a number sought in a slice. No condition.
-/
import Derived.Test.YtnfcbalppecnfaaGreatPMG
namespace Go.Proofs.YtnfcbalppecnfaaGreat
open Go.RowKit Go.Maps
set_option linter.unusedVariables false
set_option linter.unusedSimpArgs false
theorem refIs0 (w : World) (a : Option Addr) (c : Nat) (k : Int) : Calls Tryz.prog 27 #[.slice a 0 c, .int .i64 k] w fun e w' => e = .returned (.bool false) ∧ w' = w := by
  by_cases h1 : 1 ≤ k
  · have h2 : ¬ k ≤ 0 := by omega
    go_enter Tryz.func27, Tryz.ntmps27
    go_wp2
    go_ret
    exact ⟨by simp [h1, h2], rfl⟩
  · go_enter Tryz.func27, Tryz.ntmps27
    go_wp2
    go_ret
    exact ⟨by simp [h1], rfl⟩
theorem refQ0 (w : World) (a : Option Addr) (c : Nat) : Calls Tryz.prog 36 #[.slice a 0 c] w fun e w' => (∃ a' c', e = .returned (.slice a' 0 c')) ∧ Keep (fun g => g < w.heap.size) w w' := by
  have k0 : Keep (fun g => g < w.heap.size) w (w.alloc (.cells #[] 3)) := (Keep.refl _ w).alloc _
  have HK := Lib.hid k0; clear k0
  go_enter Tryz.func36, Tryz.ntmps36
  go_wp2
  go_loop [3, 4] (fun s i => i = .int .i64 0 ∧ s = .slice (some ⟨w.heap.size, 0, none⟩) 0 0) (fun _ _ => 0)
  case atStart => exact ⟨rfl, rfl⟩
  case round =>
    obtain ⟨rfl, rfl⟩ := hrel
    go_wp2
    go_ret
    exact ⟨⟨_, _, rfl⟩, HK.out⟩
theorem refDrop0 (w : World) (a : Option Addr) (c : Nat) (k : Int) : Calls Tryz.prog 24 #[.slice a 0 c, .int .i64 k] w fun e w' => e = .returned (.tuple #[.slice a 0 c, .int .i64 140]) ∧ w' = w := by
  have H := Lib.hid (refIs0 w a c k)
  go_enter Tryz.func24, Tryz.ntmps24
  go_wp2_with (go_at_call 27; refine H.out.mono ?_; rintro e w' ⟨rfl, rfl⟩)
  go_ret2
  exact ⟨rfl, rfl⟩
theorem refSend0 (w : World) (a : Option Addr) (c : Nat) (k : Int) (t : Tm) (b : Option Addr) (d : Nat) : Calls Tryz.prog 25 #[.slice a 0 c, .int .i64 k, tv t b d] w fun e w' => e = .returned (.tuple #[.slice a 0 c, .int .i64 140]) ∧ Keep (fun g => g < w.heap.size) w w' := by
  have H := Lib.hid (fun w => refIs0 w a c k)
  have k0 : ∀ B, Keep (fun g => g < w.heap.size) w (w.alloc B) := fun B => (Keep.refl _ w).alloc _
  have HK := Lib.hid k0; clear k0
  unfold tv
  go_enter Tryz.func25, Tryz.ntmps25
  go_wp2_with (go_at_call 27; refine (H.out _).mono ?_; rintro e w' ⟨rfl, rfl⟩)
  go_ret2
  exact ⟨rfl, HK.out _⟩
theorem refGet0 (w : World) (a : Option Addr) (c : Nat) (k : Int) (t : Tm) (b : Option Addr) (d : Nat) (tk : Bool) : Calls Tryz.prog 26 #[.slice a 0 c, .int .i64 k, tv t b d, .bool tk] w fun e w' => e = .returned (.tuple #[.slice a 0 c, .agg #[.int .i64 0, .string ⟨#[]⟩, .int .i64 0, .slice none 0 0], .int .i64 140]) ∧ Keep (fun g => g < w.heap.size) w w' := by
  have H := Lib.hid (fun w => refIs0 w a c k)
  have k0 : ∀ B B', Keep (fun g => g < w.heap.size) w ((w.alloc B).alloc B') := fun B B' => ((Keep.refl _ w).alloc _).alloc _
  have HK := Lib.hid k0; clear k0
  unfold tv
  go_enter Tryz.func26, Tryz.ntmps26
  go_wp2_with (go_at_call 27; refine (H.out _).mono ?_; rintro e w' ⟨rfl, rfl⟩)
  try simp only [Exit.inBlock, Exit.then]
  refine bodyPost_ret (by simp [results, Tryz.results26, go_sem]; try rfl) rfl ?_
  exact ⟨rfl, HK.out _ _⟩
end Go.Proofs.YtnfcbalppecnfaaGreat
