/-
  Operators in memory: slices.Collect over maps.Values of a table's map. No condition.
-/
import Derived.Test.YtbjnbfoedicelaaDoorOp11
import Derived.Maps.AppendAt
namespace Go.Proofs.YtbjnbfoedicelaaDoor
open Go.RowKit Go.Maps Go.Shelf
set_option linter.unusedVariables false
set_option linter.unusedSimpArgs false
attribute [local go_sem] Oper.semAt_some

theorem infoOp : (Tryd.prog.info? 27).map (fun i => (i.zero, i.size, i.bytes)) = some (some (opVal zOp), 3, 32) := by kernel_rfl
def cellsOfOps (xs : Tab) : List Value := xs.flatMap opCells
theorem cellsOfOps_snoc (xs : Tab) (o : Opv) : cellsOfOps (xs ++ [o]) = cellsOfOps xs ++ opCells o := by simp [cellsOfOps]
theorem cellsOfOps_length (xs : Tab) : (cellsOfOps xs).length = xs.length * 3 := by
  induction xs with
  | nil => rfl
  | cons a xs ih =>
    show (opCells a ++ cellsOfOps xs).length = _
    rw [List.length_append, ih]
    simp [opCells]; omega
theorem cells_three_new (W : World) (a b c : Value) (T : TypeId) (j : Nat) (u : Value) (h : [a, b, c][j]? = some u) : (W.alloc (.cells #[a, b, c] T)).cell? (Addr.add ⟨W.heap.size, 0, none⟩ j) = some u := by
  have hb := (Blk.new W T #[a, b, c]).cell j
  have he : Addr.add ⟨W.heap.size, 0, none⟩ j = ⟨W.heap.size, j, none⟩ := by simp [Addr.add]; omega
  rw [he, hb]; simpa using h
set_option maxRecDepth 100000 in
set_option maxHeartbeats 4000000 in
theorem appendSeq_in (F : Fence) (n : Nat) (h46 : F.fn 46) (h33 : F.fn 33) (hro : F.round = none) (hn : 3 ≤ n) (Bm mb : Nat) (T : Tab) (w : World) (hBm : Bm < w.heap.size)
    (hm : w.cell? ⟨Bm, 0, none⟩ = some (.map (some mb))) (hown : MapOf w mb T) (hT : T.length ≤ 200) :
    CallsIn F n Tryd.prog 46 #[.slice none 0 0, .func (.func 33) #[] #[.pointer (some ⟨Bm, 0, none⟩)]] w fun e w' =>
      ∃ v xs, e = .returned v ∧ List.Perm xs T ∧ w'.ownsRow w.heap.size 27 3 v xs.length (cellsOfOps xs) ∧ Below w.heap.size w w' := by
  have h1 : 1 ≤ n := by omega
  obtain ⟨i0, hi, hz0, hz1, hz2⟩ := info_parts infoOp
  have bO := Boxed.new w 22 (.slice none 0 0)
  have hB0 : Below w.heap.size w (w.alloc (.cells #[.slice none 0 0] 22)) := (Below.refl _ w).alloc (Nat.le_refl _) _
  have hm1 : (w.alloc (.cells #[.slice none 0 0] 22)).cell? ⟨Bm, 0, none⟩ = some (.map (some mb)) := (hB0.cell (p := ⟨Bm, 0, none⟩) hBm).trans hm
  have hown1 : MapOf (w.alloc (.cells #[.slice none 0 0] 22)) mb T := hown.keep ((Keep.refl (fun _ => True) w).alloc _) trivial
  have hseq := values_stops F (n - 1) h33 hro (by omega) Bm mb T (w.alloc (.cells #[.slice none 0 0] 22)) (by simp; omega) hm1 hown1
  clear hm1 hown1 hm hown
  refine callsIn_of_wp_marks Tryd.func46 rfl h46 ?_ hro
  simp only [Tryd.ntmps46, List.size_toArray, List.length_cons, List.length_nil, Nat.reduceAdd, Nat.reduceSub, Array.replicate_succ, Array.replicate_zero, List.push_toArray, List.append_toArray, List.nil_append, List.cons_append]
  gi_wp2
  refine wpIn_rangeFunc_ownH hro h1 (gf := 33) (lb := #[.pointer (some ⟨Bm, 0, none⟩)]) rfl h33 (enters_of Tryd.func33 (by kernel_rfl) rfl)
    (seqStopsA_iff.1 hseq) walksK_t walksK_b (Below.refl _ _) (fun _ => rfl)
    (fun pre W => (∃ v, Boxed W w.heap.size 22 v ∧ W.ownsRow w.heap.size 27 3 v pre.length (cellsOfOps pre) ∧ True) ∧ Below w.heap.size w W)
    (fun _ _ _ => False)
    (OwnFrom.and (Own.from (holdsRow_own w.heap.size w.heap.size 22 27 3 (fun pre : Tab => pre.length) (fun pre => cellsOfOps pre) (fun pre v => True)) _) (ownFrom_below (Nat.le_refl _) (by simp)))
    (fun _ _ _ _ _ hs _ _ => hs)
    ⟨⟨_, bO, World.ownsRow_nil _ _ _ _, trivial⟩, hB0⟩
    (fun x a' W => ∃ g, W.heap[g]? = some (.cells (opCells x).toArray 27 (0, 0)) ∧ a' = { tmps := #[.slice none 0 0, .func (.func 33) #[] #[.pointer (some ⟨Bm, 0, none⟩)], .pointer (some ⟨w.heap.size, 0, none⟩), undef, .slice none 0 0, .pointer (some ⟨g, 0, none⟩), .func (.func 33) #[] #[.pointer (some ⟨Bm, 0, none⟩)], opVal x, undef, undef, undef, undef, undef], defers := [] })
    (fun x a' s A B row hs hg hr => by
      obtain ⟨g, hgc, he⟩ := hs
      refine ⟨g, (hg.block g (Array.getElem?_eq_some_iff.1 hgc).1 (fun e => ?_)).trans hgc, he⟩
      obtain ⟨_, o, ho, hc⟩ := hr g e.symm
      rw [hgc] at ho; cases ho; cases hc) ?assign ?body ?done ?stop
  case assign =>
    intro l pre x W K hI hK
    unfold opVal
    obtain ⟨⟨v, hv, hrow, _⟩, hB⟩ := hI
    gi_wp2
    exact hK _ _ ((KeepsOthers.alloc W _).from _) (KeepsWalks.alloc W _) ⟨⟨v, hv.alloc _, hrow.alloc _, trivial⟩, hB.alloc hB.size _⟩ ⟨W.heap.size, World.alloc_heap_new W _, rfl⟩
  case body =>
    rintro l pre x a' W hl hr ⟨⟨v, hv, hrow, _⟩, hB⟩ ⟨g, hg, rfl⟩ hlt
    have hc := hv.cell
    have hg' : Blk W g 27 (opCells x).toArray := hg
    have g0 := hg'.cell 0
    have g1 := hg'.cell 1
    have g2 := hg'.cell 2
    simp [opCells] at g0 g1 g2
    have hsn := cellsOfOps_snoc pre x
    unfold opCells at hsn
    have HSN := Lib.hid hsn; clear hsn hg hg'
    unfold opVal
    generalize str x.nm = sx at *
    generalize x.ty = tx at *
    generalize x.pr = rx at *
    gi_wp2_with (gi_at_builtin; refine wpListIn_append_own _ rfl _ _ 22 rfl w.heap.size 27 i0 (opVal zOp) 3 32 Tryd.underlying22 hi hz0 hz1 hz2 rfl (by decide) _ _ _ rfl (hrow.alloc _) ⟨W.heap.size, 0, none⟩ 1 1 [.string sx, .int .i64 tx, .int .i64 rx] rfl rfl (cells_three_new _ _ _ _ _) (by simp [Value.oneCell']) (by unfold maxLen; omega) (by omega) (by have := hB.size; simp; omega) ?_; intro v' w1 hown' hgrow _; obtain ⟨g', cap', rfl⟩ := ownsRow_succ hown'; obtain ⟨hv1, hv2, hr2, hk2, hb2⟩ := hv.appended (by decide) hrow hB.size (Nat.le_refl _) hown' hgrow; have hc1 := hv1.cell; have hf1 := hv1.frozen)
    exact ⟨hk2.from _, hk2.walks, ⟨_, hv2, by rw [HSN.out]; simpa using hr2, trivial⟩, hB.trans hb2⟩
  case done =>
    rintro D ys W hD hS ⟨⟨v, hv, hrow, _⟩, hB⟩ hK
    have hc := hv.cell
    gi_wp2
    refine ⟨by simp, .inl ⟨_, _, rfl, run_takeDeferred hK, ?_⟩⟩
    exact ⟨_, results_tmp rfl _ _ _, v, ys, rfl, hS, ownsRow_putObj hrow _ hK rfl, hB.trans (belowK_b (w := w) (Nat.le_refl _) W D _ _ (by simp at hD; omega) hK rfl rfl)⟩
  case stop =>
    rintro D c pre W _ _ h _
    exact h.elim
end Go.Proofs.YtbjnbfoedicelaaDoor
