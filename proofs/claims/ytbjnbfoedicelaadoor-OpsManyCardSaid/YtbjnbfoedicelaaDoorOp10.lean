/-
  Package ops: the order of operators, and the sort by it. No condition.
-/
import Derived.Test.YtbjnbfoedicelaaDoorOp9
import Derived.Shelf.Lay
import Derived.Ground.SlsfProg
namespace Go.Proofs.YtbjnbfoedicelaaDoor
open Go.RowKit Go.Maps
set_option linter.unusedVariables false
set_option linter.unusedSimpArgs false

def ordV (a b : Opv) : Int := orV (cmpS a.nm b.nm) (cmpI (rankV a.ty) (rankV b.ty))
section
variable {w : World}
theorem rank_q (t : Int) (w : World) : Calls Tryd.prog 37 #[.int .i64 t] w fun e w' => e = .returned (.int .i64 (rankV t)) ∧ w' = w :=
  (rank_any t w).mono fun _ _ hh => ⟨hh.1, hh.2.symm⟩
theorem cmpI_q (x y : Int) (w : World) : Calls Tryd.prog 36 #[.int .i64 x, .int .i64 y] w fun e w' => e = .returned (.int .i64 (cmpI x y)) ∧ w' = w :=
  (cmpI_any x y w).mono fun _ _ hh => ⟨hh.1, hh.2.symm⟩
theorem cmpS_q (x y : List UInt8) (w : World) : Calls Tryd.prog 35 #[.string (str x), .string (str y)] w fun e w' => e = .returned (.int .i64 (cmpS x y)) ∧ w' = w :=
  (cmpS_any x y w).mono fun _ _ hh => ⟨hh.1, hh.2.symm⟩
set_option maxRecDepth 100000 in
set_option maxHeartbeats 8000000 in
theorem order_any (a b : Opv) (w : World) : Calls Tryd.prog 23 #[opVal a, opVal b] w fun e w' =>
    e = .returned (.int .i64 (ordV a b)) ∧ w.drawn ≤ w'.drawn ∧ Keep (fun _ => True) w w' := by
  unfold ordV
  have hs := fun W => cmpS_q a.nm b.nm W
  have hi := fun W => cmpI_q (rankV a.ty) (rankV b.ty) W
  have hra := fun W => rank_q a.ty W
  have hrb := fun W => rank_q b.ty W
  unfold opVal
  generalize cmpS a.nm b.nm = cs at hs ⊢
  generalize cmpI (rankV a.ty) (rankV b.ty) = ci at hi ⊢
  generalize rankV a.ty = ra at hi hra
  generalize rankV b.ty = rb at hi hrb
  generalize str a.nm = sa at hs ⊢
  generalize str b.nm = sb at hs ⊢
  generalize a.ty = ta at hra ⊢
  generalize b.ty = tb at hrb ⊢
  generalize a.pr = pa
  generalize b.pr = pb
  have HS := Lib.hid hs; clear hs
  have HI := Lib.hid hi; clear hi
  have HRA := Lib.hid hra; clear hra
  have HRB := Lib.hid hrb; clear hrb
  have HK := Lib.hid (Keep.refl (fun _ => True) w)
  have HOR := Lib.hid (fun W (g c : Nat) h0 h1 => or_any cs ci g c W h0 h1)
  go_enter Tryd.func23, Tryd.ntmps23
  go_wp2_with fail
  have ba := (Blk.new w 27 #[.string sa, .int .i64 ta, .int .i64 pa]).alloc (.cells #[.string sb, .int .i64 tb, .int .i64 pb] 27)
  have bb := Blk.new (w.alloc (.cells #[.string sa, .int .i64 ta, .int .i64 pa] 27)) 27 #[.string sb, .int .i64 tb, .int .i64 pb]
  have a0 := ba.cell 0
  have a1 := ba.cell 1
  have b0 := bb.cell 0
  have b1 := bb.cell 1
  have k2 := (HK.out.alloc (.cells #[.string sa, .int .i64 ta, .int .i64 pa] 27)).alloc (.cells #[.string sb, .int .i64 tb, .int .i64 pb] 27)
  have hd : w.drawn = ((w.alloc (.cells #[.string sa, .int .i64 ta, .int .i64 pa] 27)).alloc (.cells #[.string sb, .int .i64 tb, .int .i64 pb] 27)).drawn := rfl
  have HD := Lib.hid hd; clear hd
  have K2 := Lib.hid k2; clear k2
  clear ba bb
  simp only [World.size_alloc] at b0 b1
  generalize (w.alloc (.cells #[.string sa, .int .i64 ta, .int .i64 pa] 27)).alloc (.cells #[.string sb, .int .i64 tb, .int .i64 pb] 27) = w2 at a0 a1 b0 b1 K2 HD ⊢
  simp at a0 a1 b0 b1
  refine wp_region_still_tail 12 (by kernel_rfl) (by kernel_rfl) ?_
  simp only [List.take_succ_cons, List.take_zero, List.drop_succ_cons, List.drop_zero]
  repeat (first
    | still_step
    | (refine wpStill_step (fun K hK => ?_); go_simp; with_reducible (refine ⟨_, HS.out _, hK _ ?_⟩); clear hK K)
    | (refine wpStill_step (fun K hK => ?_); go_simp; with_reducible (refine ⟨_, HI.out _, hK _ ?_⟩); clear hK K)
    | (refine wpStill_step (fun K hK => ?_); go_simp; with_reducible (refine ⟨_, HRA.out _, hK _ ?_⟩); clear hK K)
    | (refine wpStill_step (fun K hK => ?_); go_simp; refine ⟨_, HRB.out _, hK _ ?_⟩; clear hK K))
  refine wpStill_nil ?_
  change wpList _ _ _ _ _ w2.drew
  have hw3 : Keep (fun _ => True) w w2.drew := K2.out.drew
  have hd3 : w.drawn ≤ w2.drew.drawn := by have := HD.out; show w.drawn ≤ w2.drawn + 1; omega
  have K3 := Lib.hid hw3; clear hw3
  have D3 := Lib.hid hd3; clear hd3
  clear a0 a1 b0 b1 K2 HD
  generalize w2.drew = w3 at K3 D3 ⊢
  go_wp2_with fail
  refine (HOR.out _ _ _ (by simp) (by simp)).mono ?_
  rintro e w4 ⟨rfl, rfl⟩
  go_wp2_with fail
  go_ret
  exact ⟨rfl, D3.out, K3.out.alloc _⟩
/-- Nothing but new blocks and draws. -/
theorem grow_of {w w' : World} (h : Keep (fun _ => True) w w') (hd : w.drawn ≤ w'.drawn) : ∃ q os, w' = Go.Sort.grow (w.drewN q) os := by
  refine ⟨w'.drawn - w.drawn, w'.heap.extract w.heap.size w'.heap.size, ?_⟩
  have e1 : w'.heap = w.heap ++ w'.heap.extract w.heap.size w'.heap.size := by
    apply Array.ext_getElem?
    intro k
    rw [Array.getElem?_append]
    split
    · rename_i hk; exact h.block k hk trivial
    · rename_i hk
      have := h.size
      simp [Array.getElem?_extract]
      by_cases hk2 : k < w'.heap.size
      · rw [if_pos (by omega)]; congr 1; omega
      · rw [if_neg (by omega)]; exact Array.getElem?_eq_none (by omega)
  cases w with
  | mk =>
    cases w' with
    | mk =>
      obtain ⟨h1, h2, h3, h4, h5⟩ := h
      simp only at h1 h2 h3 h4 e1 hd
      unfold Go.Sort.grow World.drewN
      simp only [World.mk.injEq]
      exact ⟨e1, h2, by omega, h1, h3⟩
end
end Go.Proofs.YtbjnbfoedicelaaDoor
