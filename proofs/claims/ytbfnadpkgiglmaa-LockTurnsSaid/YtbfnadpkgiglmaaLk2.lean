/-
  Package lock: New, All, Owner. No condition but that the locks stand for a plain state.
-/
import Derived.Test.YtbfnadpkgiglmaaLk1
import Derived.Test.YtbfnadpkgiglmaaLayd
import Derived.Deep.RegionWith
import Derived.Deep.RegionLaw
import Derived.BigRegion
import Derived.BigQuiet
import Derived.Outline
import Derived.ProofKit
import Derived.Lib.Hide
import Derived.CallsIn
import Derived.WalkSmall
import Derived.Carry
namespace Go.Proofs.Ytbfnadpkgiglmaa
open Go.RowKit Go.Maps Go.Sort Go.Shelf
set_option linter.unusedVariables false
set_option linter.unusedSimpArgs false

/-- slices.Sort's two contracts at this dump, at the fence that asks nothing. -/
theorem sortsI (m : Nat) : AnyZI.SortsIn Try.prog Try.sortedI_ren Fence.wide m :=
  ⟨fun blk off cap ss W hH hblk hsz => callsIn_wide.2 (AnyM.slices_Sort_int Try.sortI blk off cap ss W hH hblk hsz),
   fun p cap W => callsIn_wide.2 (AnyM.slices_Sort_int_none Try.sortI p cap W)⟩
theorem sort_asc {l m : List Int} (hp : m.Perm l) (hl : l.Pairwise (· < ·)) : m.mergeSort (fun x y => decide (x ≤ y)) = l := by
  have h1 : m.mergeSort leI = l.mergeSort leI := mergeSort_of_perm_i hp
  have h2 : l.mergeSort leI = l := by
    refine List.mergeSort_of_pairwise (hl.imp ?_)
    intro a b h; simp only [leI, decide_eq_true_eq]; omega
  exact h1.trans h2

set_option maxHeartbeats 1000000 in
theorem all_any {w : World} {pa mb : Nat} {L : LS} {c : Int} (h : LkAt w pa mb L c) :
    Calls Try.prog 12 #[.pointer (some ⟨pa, 0, none⟩)] w fun e w' => ∃ v : Value, e = .returned v ∧
      w'.ownsRow w.heap.size 3 1 v (LS.all L).length ((LS.all L).map encZ) ∧ Below w.heap.size w w' := by
  obtain ⟨D, hown, hperm, hsz⟩ := h.map.keys
  have hfew := h.ok.few
  have hmax : Maps.size D ≤ maxLen := by unfold maxLen; omega
  have hbytes : Maps.size D * 8 ≤ 140737488355328 := by omega
  have hpa := h.head.cell 1
  have hlt := h.head.lt
  refine (callsIn_wide (n := 6)).1 ?_
  have hbl := hown.lt
  have hseq : SeqGives Fence.wide 2 Try.prog 32 #[.pointer (some ⟨w.heap.size, 0, none⟩)] encZ (fun ss => ss.Perm (intKeys D)) (Maps.size D) (w.alloc (.cells #[.map (some mb)] 52)) :=
    AnyZI.keys_gives (ρ := Try.keysO_ren) { Try.keysO with } Fence.wide _ trivial rfl (by omega) w.heap.size mb _ D _ (by simp) (by simp) (by
      obtain ⟨es, clock, hb, Ft, hs, hD⟩ := hown
      exact ⟨es, clock, (Below.heap_alloc _ _ mb hbl).trans hb, Ft, hs, hD⟩)
  have cK : ∀ mb W, CallsIn Fence.wide 5 Try.prog 27 #[.map mb] W fun e w' => e = .returned (.func (.func 32) #[] #[.pointer (some ⟨W.heap.size, 0, none⟩)]) ∧ w' = W.alloc (.cells #[.map mb] 52) := fun mb W => AnyZI.keys_in Try.keysO Fence.wide 5 trivial rfl mb W
  have cS := AnyZI.sorted_in Try.sortedI Fence.wide 5 trivial trivial trivial trivial rfl (by omega) (sortsI _) (enters_of Try.func31 (by kernel_rfl) rfl) 32 #[.pointer (some ⟨w.heap.size, 0, none⟩)] trivial (enters_of Try.func32 (by kernel_rfl) rfl) _ _ hmax hbytes _ hseq
  change CallsIn _ _ Try.prog 26 _ _ _ at cS
  have hfK : Fence.wide.fn 27 := trivial
  have hfS : Fence.wide.fn 26 := trivial
  have HP := Lib.hid hperm; clear hperm
  clear h hseq hown hbl hmax hbytes hsz hfew
  simp at hpa
  refine callsIn_of_wp Try.func12 rfl trivial ?_ rfl
  simp only [Try.ntmps12, List.size_toArray, List.length_cons, List.length_nil, Nat.reduceAdd, Nat.reduceSub, Array.replicate_succ, Array.replicate_zero, List.push_toArray, List.append_toArray, List.nil_append, List.cons_append]
  gi_wp2_with (first
    | (gi_at_call 27; refine (cK _ _).mono ?_; rintro e w' ⟨rfl, rfl⟩)
    | (gi_at_call 26; refine cS.mono ?_; rintro e w' ⟨v, ss, rfl, hS, hrow, hnil, hb⟩))
  go_ret
  have hss := sort_asc (hS.trans HP.out.symm) (upto_lt _ _)
  have hlen : ss.length = (LS.all L).length := (hS.trans HP.out.symm).length_eq
  rw [hss, hlen] at hrow
  exact ⟨v, rfl, ownsRow_base_a hrow (by simp), ((Below.refl _ w).alloc (Nat.le_refl _) _).trans (hb.mono (by simp))⟩

set_option maxHeartbeats 1000000 in
theorem new_any (w : World) : Calls Try.prog 7 #[] w fun e w' => ∃ pa mb, e = .returned (.pointer (some ⟨pa, 0, none⟩)) ∧ LkAt w' pa mb [] 0 ∧ w.heap.size ≤ pa ∧ w.heap.size ≤ mb ∧ Below w.heap.size w w' := by
  have hm := MapOf.made w
  have hm2 : MapOf ((w.alloc (.map #[] 0)).alloc (.cells #[.int .i64 0, .map (some w.heap.size)] 54)) w.heap.size [] := hm.keep (X := fun k => k < w.heap.size + 1) ((Keep.refl _ _).alloc _) (by show w.heap.size < _; omega)
  have hb := Blk.new (w.alloc (.map #[] 0)) 54 #[.int .i64 0, .map (some w.heap.size)]
  simp only [World.size_alloc] at hb
  have HM := Lib.hid hm2; clear hm2 hm
  have HB := Lib.hid hb; clear hb
  have hmm := @run_makeMap Try.prog
  go_enter Try.func7, Try.ntmps7
  go_wp2
  go_ret
  exact ⟨w.heap.size + 1, w.heap.size, by simp, ⟨HB.out, HM.out, LS.Ok.nil⟩, by omega, by omega, ((Below.refl _ w).alloc (Nat.le_refl _) _).alloc (by simp) _⟩

/-- Who has it, and how often. -/
def owV (L : LS) (m : Int) : Value := .tuple #[.int .i64 ((LS.get L m).getD zLk).ow, .int .i64 ((LS.get L m).getD zLk).ct]
set_option maxHeartbeats 1000000 in
theorem owner_any {w : World} {pa mb : Nat} {L : LS} {c : Int} (h : LkAt w pa mb L c) {m : Int} (hm : (ik m).wf = true) :
    Calls Try.prog 10 #[.pointer (some ⟨pa, 0, none⟩), .int .i64 m] w fun e w' => e = .returned (owV L m) ∧ Below w.heap.size w w' := by
  have c1 := h.head.cell 1
  have hlt := h.head.lt
  have hl := h.map.look1 hm
  unfold owV
  generalize ((LS.get L m).getD zLk).ow = a at hl ⊢
  generalize ((LS.get L m).getD zLk).ct = b at hl ⊢
  simp at c1
  clear h
  go_enter Try.func10, Try.ntmps10
  go_wp2_with fail
  go_quiet (fail)
  go_wp2_with fail
  go_ret2
  exact ⟨rfl, by repeat (first | exact Below.refl _ _ | refine below_drewN ?_ _ | refine Below.drew ?_ | refine Below.alloc ?_ (by simp) _)⟩
end Go.Proofs.Ytbfnadpkgiglmaa
