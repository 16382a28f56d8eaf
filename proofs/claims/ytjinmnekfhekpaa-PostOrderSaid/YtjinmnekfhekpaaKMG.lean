/-
  Joined texts (Tm31, Tm32, Tm33, Tm34, Tm35, Tm36). No condition.
-/
import Derived.Test.YtjinmnekfhekpaaKMF
import Derived.Deep.QuietTactic
namespace Go.Proofs.Ytjinmnekfhekpaa
open Go.RowKit Go.Maps
set_option linter.unusedVariables false
set_option linter.unusedSimpArgs false
set_option maxHeartbeats 1000000 in
theorem refV_any (w : World) (v : Int) : Calls Try.prog 26 #[.int .i64 v] w fun e w' => e = .returned (tv (.node 1 [] v []) none 0) ∧ Keep (fun g => g < w.heap.size) w w' := by
  show Calls _ _ _ _ (fun e w' => e = .returned (.agg #[.int .i64 1, .string ⟨#[]⟩, .int .i64 v, .slice none 0 0]) ∧ _)
  go_enter Try.func26, Try.ntmps26
  go_wp2
  exact bodyPost_ret (v := .agg #[.int .i64 1, .string ⟨#[]⟩, .int .i64 v, .slice none 0 0]) (by simp [results, Try.results26, go_sem]) rfl ⟨rfl, (Keep.refl _ w).alloc _⟩
set_option maxHeartbeats 1000000 in
theorem refN_any (w : World) (v : Int) : Calls Try.prog 31 #[.int .i64 v] w fun e w' => e = .returned (tv (.node 2 [] v []) none 0) ∧ Keep (fun g => g < w.heap.size) w w' := by
  show Calls _ _ _ _ (fun e w' => e = .returned (.agg #[.int .i64 2, .string ⟨#[]⟩, .int .i64 v, .slice none 0 0]) ∧ _)
  go_enter Try.func31, Try.ntmps31
  go_wp2
  exact bodyPost_ret (v := .agg #[.int .i64 2, .string ⟨#[]⟩, .int .i64 v, .slice none 0 0]) (by simp [results, Try.results31, go_sem]) rfl ⟨rfl, (Keep.refl _ w).alloc _⟩
set_option maxHeartbeats 1000000 in
theorem refA_any (w : World) (nm : List UInt8) : Calls Try.prog 32 #[.string (str nm)] w fun e w' => e = .returned (tv (.node 3 nm 0 []) none 0) ∧ Keep (fun g => g < w.heap.size) w w' := by
  show Calls _ _ _ _ (fun e w' => e = .returned (.agg #[.int .i64 3, .string (str nm), .int .i64 0, .slice none 0 0]) ∧ _)
  generalize str nm = s
  go_enter Try.func32, Try.ntmps32
  go_wp2
  exact bodyPost_ret (v := .agg #[.int .i64 3, .string s, .int .i64 0, .slice none 0 0]) (by simp [results, Try.results32, go_sem]) rfl ⟨rfl, (Keep.refl _ w).alloc _⟩
set_option maxHeartbeats 1000000 in
theorem refC_any (w : World) (nm : List UInt8) (ts : List Tm) (a : Option Addr) (c : Nat) : Calls Try.prog 30 #[.string (str nm), .slice a ts.length c] w fun e w' => e = .returned (tv (.node 4 nm 0 ts) a c) ∧ Keep (fun g => g < w.heap.size) w w' := by
  show Calls _ _ _ _ (fun e w' => e = .returned (.agg #[.int .i64 4, .string (str nm), .int .i64 0, .slice a ts.length c]) ∧ _)
  generalize str nm = s
  generalize ts.length = n
  go_enter Try.func30, Try.ntmps30
  go_wp2
  exact bodyPost_ret (v := .agg #[.int .i64 4, .string s, .int .i64 0, .slice a n c]) (by simp [results, Try.results30, go_sem]) rfl ⟨rfl, (Keep.refl _ w).alloc _⟩
set_option maxHeartbeats 1000000 in
theorem sign_any (w : World) (x y : Bool) : Calls Try.prog 73 #[.bool x, .bool y] w fun e w' => e = .returned (.int .i64 (if x then -1 else if y then 1 else 0)) ∧ w = w' := by
  cases x <;> cases y <;> (go_enter Try.func73, Try.ntmps73; go_wp2; go_ret; exact ⟨by simp, rfl⟩)
end Go.Proofs.Ytjinmnekfhekpaa
namespace Go.Proofs.Ytjinmnekfhekpaa
open Go.RowKit Go.Maps
set_option linter.unusedVariables false
set_option linter.unusedSimpArgs false
def maxN (l : List Nat) : Nat := l.foldl (fun d k => if d < k then k else d) 0
def rd : Nat → Tm → Nat
  | 0, _ => 1
  | n + 1, t => if t.k = 4 then maxN (t.args.map (rd n)) + 1 else 1
end Go.Proofs.Ytjinmnekfhekpaa
namespace Go.Proofs.Ytjinmnekfhekpaa
open Go.RowKit Go.Maps
set_option linter.unusedVariables false
set_option linter.unusedSimpArgs false
end Go.Proofs.Ytjinmnekfhekpaa
namespace Go.Proofs.Ytjinmnekfhekpaa
open Go.RowKit Go.Maps
set_option linter.unusedVariables false
set_option linter.unusedSimpArgs false
def Tm.pl (n : Nat) (t : Tm) : Bool := t.ok && decide (t.nd ≤ n)
end Go.Proofs.Ytjinmnekfhekpaa
namespace Go.Proofs.Ytjinmnekfhekpaa
open Go.RowKit Go.Maps
set_option linter.unusedVariables false
set_option linter.unusedSimpArgs false
end Go.Proofs.Ytjinmnekfhekpaa
namespace Go.Proofs.Ytjinmnekfhekpaa
open Go.RowKit Go.Maps
set_option linter.unusedVariables false
set_option linter.unusedSimpArgs false
def LongsAt (w : World) (a : Option Addr) (xs : List Int) : Prop :=
  ∀ j, j < xs.length → ∃ b off, a = some ⟨b, off, none⟩ ∧ b < w.heap.size ∧ w.cell? ⟨b, off + j, none⟩ = some (.int .i64 (xs.getD j 0))
end Go.Proofs.Ytjinmnekfhekpaa
