/-
  Package ops: what New puts in, plain; the iterator's contract; marks of loops at a return. No condition.
-/
import Derived.Test.YtbjnbfoedicelaaDoorOp15
import Derived.Test.YtbjnbfoedicelaaDoorOp6
import Derived.Sort.LoopGhostIn
import Derived.RangeFuncCalls
namespace Go.Proofs.YtbjnbfoedicelaaDoor
open Go.RowKit Go.Shelf Go.Maps
set_option linter.unusedVariables false
set_option linter.unusedSimpArgs false
attribute [local go_sem] Oper.semAt_some

/-- The operators that there always are: a precedence, a type, names with blanks between. -/
def rowsV : List (Int × Int × List UInt8) := [
  (1200, 1, [58, 45, 32, 45, 45, 62]),
  (1200, 5, [58, 45, 32, 63, 45]),
  (1100, 2, [59]),
  (1050, 2, [45, 62]),
  (1000, 2, [44]),
  (900, 4, [92, 43]),
  (700, 1, [61, 32, 92, 61, 32, 61, 61, 32, 92, 61, 61, 32, 64, 60, 32, 64, 61, 60, 32, 64, 62, 32, 64, 62, 61, 32, 61, 46, 46, 32, 105, 115, 32, 61, 58, 61, 32, 61, 92, 61, 32, 60, 32, 61, 60, 32, 62, 32, 62, 61]),
  (500, 3, [43, 32, 45, 32, 47, 92, 32, 92, 47]),
  (400, 3, [42, 32, 47, 32, 47, 47, 32, 114, 101, 109, 32, 109, 111, 100, 32, 60, 60, 32, 62, 62]),
  (200, 1, [42, 42]),
  (200, 2, [94]),
  (200, 4, [45, 32, 92])]
def addRow (T : Tab) (p k : Int) (ns : List (List UInt8)) : Tab := ns.foldl (fun T nm => put T ⟨nm, k, p⟩) T
def tabOf : List (Int × Int × List UInt8) → Tab → Tab
  | [], T => T
  | r :: rs, T => tabOf rs (addRow T r.1 r.2.1 (flds r.2.2))
def tab0 : Tab := tabOf rowsV []
def tabAt (j : Nat) : Tab := tabOf (rowsV.take j) []
theorem addRow_snoc (T : Tab) (p k : Int) (pre : List (List UInt8)) (x : List UInt8) : addRow T p k (pre ++ [x]) = put (addRow T p k pre) ⟨x, k, p⟩ := by simp [addRow]
theorem addRow_length (T : Tab) (p k : Int) (pre : List (List UInt8)) : (addRow T p k pre).length ≤ T.length + pre.length := by
  induction pre generalizing T with
  | nil => simp [addRow]
  | cons x pre ih =>
    show (addRow (put T ⟨x, k, p⟩) p k pre).length ≤ _
    have := ih (put T ⟨x, k, p⟩)
    have h2 : (put T ⟨x, k, p⟩).length ≤ T.length + 1 := by
      unfold put drop
      have := List.length_filter_le (fun o : Opv => !o.isKey x (isPre k)) T
      simp; omega
    simp; omega
theorem tabOf_snoc (rs : List (Int × Int × List UInt8)) (r : Int × Int × List UInt8) (T : Tab) : tabOf (rs ++ [r]) T = addRow (tabOf rs T) r.1 r.2.1 (flds r.2.2) := by
  induction rs generalizing T with
  | nil => rfl
  | cons x rs ih => exact ih _
theorem tabAt_succ {j : Nat} {r : Int × Int × List UInt8} (h : rowsV[j]? = some r) : tabAt (j + 1) = addRow (tabAt j) r.1 r.2.1 (flds r.2.2) := by
  unfold tabAt
  rw [List.take_add_one, h]
  exact tabOf_snoc _ _ _
theorem rows_good : ∀ r ∈ rowsV, (∀ c ∈ r.2.2, c < 128) ∧ r.2.2.length ≤ 1000 ∧ (flds r.2.2).length ≤ 20 ∧ (∀ x ∈ flds r.2.2, 1 ≤ x.length ∧ x.length ≤ 64) ∧ 1 ≤ r.2.1 ∧ r.2.1 ≤ 7 ∧ 0 ≤ r.1 ∧ r.1 ≤ 1200 := by decide +kernel
theorem tabAt_length : ∀ j : Fin 13, (tabAt j.val).length ≤ 60 := by decide +kernel
theorem tabAt_12 : tabAt 12 = tab0 := rfl
theorem wf_small {n : Int} (h1 : 0 ≤ n) (h2 : n ≤ 5000) : (Lit.int .i64 n).wf = true := by
  simp [Lit.wf, IntKind.min, IntKind.max, IntKind.bits, IntKind.signed]; omega

set_option maxHeartbeats 1000000 in
theorem fieldsSeq_any (s : List UInt8) (w : World) : Calls Tryd.prog 19 #[.string (str s)] w fun e w' =>
    e = .returned (.func (.func 28) #[] #[.pointer (some ⟨w.heap.size, 0, none⟩)]) ∧ w' = w.alloc (.cells #[.string (str s)] 9) := by
  generalize str s = sx
  go_enter Tryd.func19, Tryd.ntmps19
  go_wp2
  go_ret
  exact ⟨rfl, rfl⟩
/-- A name that can be an operator's. -/
abbrev Nam := { x : List UInt8 // 1 ≤ x.length ∧ x.length ≤ 64 }
theorem fields_stops (F : Fence) (n : Nat) (h28 : F.fn 28) (hro : F.round = none) (hn : 1 ≤ n) (Bs : Nat) (s : List UInt8) (hs : ∀ c ∈ s, c < 128) (hsl : s.length ≤ 1000) (hsx : ∀ x ∈ flds s, 1 ≤ x.length ∧ x.length ≤ 64) (w : World) (hBs : Bs < w.heap.size) (hgt : 1 < w.heap.size)
    (hm : w.cell? ⟨Bs, 0, none⟩ = some (.string (str s))) (htab : ∀ c : UInt8, c < 128 → w.cell? ⟨1, c.toNat, none⟩ = some (.int .u8 (if isSp c then 1 else 0))) :
    SeqStopsK F n Tryd.prog 28 #[.pointer (some ⟨Bs, 0, none⟩)] (fun x : Nam => #[.string (str x.1)]) (KpF Bs 1) (fun xs => xs.map (·.1) = flds s) (fun _ => True) (flds s).length w := fun l J Jx W hW hJ hJx hY h0 => by
  have h := fields1_in F n h28 hro hn l Bs s hs hsl (fun pre W => ∃ pre' : List Nam, pre = pre'.map (·.1) ∧ J pre' W) (fun pre W => ∃ pre' : List Nam, pre = pre'.map (·.1) ∧ Jx pre' W)
    (fun pre x W1 hp hr => by
      obtain ⟨pre', rfl, hj⟩ := hp
      obtain ⟨rest, hr⟩ := hr
      have hx := hsx x (by rw [← hr]; simp)
      obtain ⟨fn, tmps, assign, body, hy, hR⟩ := hY pre' ⟨x, hx⟩ W1 hj (by rw [← hr]; simp)
      refine ⟨fn, tmps, assign, body, hy, hR.mono ?_⟩
      rintro e W' (⟨he, hj', hk⟩ | ⟨he, hj'⟩)
      · exact .inl ⟨he, ⟨pre' ++ [⟨x, hx⟩], by simp, hj'⟩, hk⟩
      · exact .inr ⟨he, ⟨pre' ++ [⟨x, hx⟩], by simp, hj'⟩⟩)
    W (fun pre A B row hp hg hr => by obtain ⟨pre', rfl, hj⟩ := hp; exact ⟨pre', rfl, hJ pre' A B row hj hg hr⟩)
    ((hW.cell (p := ⟨Bs, 0, none⟩) hBs).trans hm) (fun c hc => (hW.cell (p := ⟨1, c.toNat, none⟩) hgt).trans (htab c hc)) ⟨[], rfl, h0⟩
  refine h.mono ?_
  rintro e W' ⟨hv, (⟨xs, hxs, pre', hp, hj⟩ | ⟨pre, _, pre', hp, hj⟩)⟩
  · exact ⟨hv, .inl ⟨pre', hp.symm.trans hxs, hj⟩⟩
  · exact ⟨hv, .inr ⟨pre', trivial, hj⟩⟩

def markOf (D : Nat) : Deferred := { target := .collected D, args := #[] }
theorem leaves_marks {F : Fence} {n : Nat} {P : Program} {fn : Func} {tmps : Array Value} {R : Ending → World → Prop} {u : FrameMode} (hu : u = .returning) : ∀ (Ds : List Nat) (W : World), Ds.Nodup → (∀ D ∈ Ds, W.heap[D]? = some (.deferred (some []))) →
    (∀ W', Keep (fun k => k ∉ Ds) W W' → LeavesInM F n P fn tmps R [] u W') → LeavesInM F n P fn tmps R (Ds.map markOf) u W
  | [], W, _, _, hR => hR W (Keep.refl _ _)
  | D :: Ds, W, hnd, h, hR => by
    obtain ⟨h1, h2⟩ := List.nodup_cons.1 hnd
    have hD := h D (by simp)
    refine ⟨by rw [hu]; simp, .inl ⟨D, _, rfl, run_takeDeferred hD, ?_⟩⟩
    have hk : Keep (fun k => k ≠ D) W (W.putObj D (.deferred none)) := ⟨rfl, rfl, rfl, by simp [World.putObj], fun k _ hne => World.putObj_heap_other hne⟩
    refine leaves_marks hu Ds _ h2 (fun D' hD' => (World.putObj_heap_other (fun e => h1 (by subst e; exact hD'))).trans (h D' (by simp [hD']))) (fun W' hW' => hR W' ?_)
    exact (hk.less (fun k hk' => by simp at hk'; exact hk'.1)).trans (hW'.less (fun k hk' => by simp at hk'; exact hk'.2))
end Go.Proofs.YtbjnbfoedicelaaDoor
