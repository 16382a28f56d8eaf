/-
  The row of what waits, while it is gone through: reading an element, writing one, clearing the end; and the search for the first block that goes. Conditions: the yard and its arena stand for plain states.
-/
import Derived.Test.YtiiaajdkkofbjaaYsweep
import Derived.Laws.IdiomCopy
namespace Go.Proofs.Ytiiaajdkkofbjaa
open Go.RowKit Go.Maps

def Row (w : World) (g cap : Nat) (L : List Wt) : Prop :=
  ∃ cur, Blk w g 103 cur ∧ cur.size = cap * 3 ∧ L.length ≤ cap ∧ cur.toList.take (L.length * 3) = flat L

section
variable {w w' : World} {g cap : Nat} {L : List Wt} {X : Nat → Prop}
theorem Row.lt (h : Row w g cap L) : g < w.heap.size := by obtain ⟨cur, hb, _⟩ := h; exact hb.lt
theorem Row.frozen (h : Row w g cap L) (i : Nat) : w.frozen? ⟨g, i, none⟩ = false := by obtain ⟨cur, hb, _⟩ := h; exact hb.frozen i
theorem Row.below (h : Row w g cap L) (hb : Below w.heap.size w w') : Row w' g cap L := by obtain ⟨cur, h1, h2⟩ := h; exact ⟨cur, h1.below hb h1.lt, h2⟩
theorem Row.keep (h : Row w g cap L) (hk : Keep X w w') (hX : X g) : Row w' g cap L := by obtain ⟨cur, h1, h2⟩ := h; exact ⟨cur, h1.keep hk hX, h2⟩
theorem Row.far (h : Row w g cap L) {p : Addr} (hp : g ≠ p.block) (u : Value) : Row (w.setCell p u) g cap L := by obtain ⟨cur, h1, h2⟩ := h; exact ⟨cur, h1.far hp u, h2⟩
theorem Row.drew (h : Row w g cap L) : Row w.drew g cap L := h
theorem Row.alloc (h : Row w g cap L) (o : Obj) : Row (w.alloc o) g cap L := by obtain ⟨cur, h1, h2⟩ := h; exact ⟨cur, h1.alloc o, h2⟩
theorem Row.ne_ {g' : Nat} {t : TypeId} {cs : Array Value} (h : Row w g cap L) (hb : Blk w g' t cs) (ht : 103 ≠ t) : g ≠ g' := by obtain ⟨cur, h1, h2⟩ := h; exact h1.ne_ hb ht
theorem Row.at_ (h : Row w g cap L) (k : Nat) (hk : k < L.length) :
    w.cell? ⟨g, k * 3, none⟩ = some (.int .i64 L[k].block) ∧ w.cell? ⟨g, k * 3 + 1, none⟩ = some (.int .i64 L[k].thread) ∧ w.cell? ⟨g, k * 3 + 2, none⟩ = some (.int .i64 L[k].whn) := by
  obtain ⟨cur, hB, _, _, ht⟩ := h
  obtain ⟨f0, f1, f2⟩ := flat_get L k hk
  have key : ∀ i, i < L.length * 3 → cur[i]? = (flat L)[i]? := by
    intro i hi
    rw [← ht, List.getElem?_take, if_pos hi, Array.getElem?_toList]
  refine ⟨?_, ?_, ?_⟩
  · rw [hB.cell, key _ (by omega)]; exact f0
  · rw [hB.cell, key _ (by omega)]; exact f1
  · rw [hB.cell, key _ (by omega)]; exact f2
theorem flat_set (L : List Wt) (i : Nat) (r : Wt) : (((flat L).set (i * 3) (.int .i64 r.block)).set (i * 3 + 1) (.int .i64 r.thread)).set (i * 3 + 2) (.int .i64 r.whn) = flat (L.set i r) := by
  induction L generalizing i with
  | nil => simp [flat]
  | cons x L ih =>
    cases i with
    | zero => simp [flat_cons, Wt.cells]
    | succ i =>
      have e : (i + 1) * 3 = i * 3 + 3 := by omega
      rw [e]
      have := ih i
      simp only [flat_cons, Wt.cells, List.set_cons_succ, List.cons_append, List.nil_append] at *
      rw [← this]
theorem Row.set_ (h : Row w g cap L) (i : Nat) (r : Wt) :
    Row (((w.setCell ⟨g, i * 3, none⟩ (.int .i64 r.block)).setCell ⟨g, i * 3 + 1, none⟩ (.int .i64 r.thread)).setCell ⟨g, i * 3 + 2, none⟩ (.int .i64 r.whn)) g cap (L.set i r) := by
  obtain ⟨cur, hB, hs, hl, ht⟩ := h
  refine ⟨_, ((hB.set_ (i * 3) _).set_ (i * 3 + 1) _).set_ (i * 3 + 2) _, by simpa using hs, by simpa using hl, ?_⟩
  rw [List.length_set, ← flat_set, ← ht]
  simp only [Array.toList_setIfInBounds, List.take_set]
/-- What waits is one place shorter at the end, whatever lies there. -/
theorem Row.take_ (h : Row w g cap L) (i : Nat) : Row w g cap (L.take i) := by
  obtain ⟨cur, hB, hs, hl, ht⟩ := h
  refine ⟨cur, hB, hs, by simp; omega, ?_⟩
  rw [← flat_take, ← ht, List.take_take, List.length_take]
  congr 1
  omega
theorem Blk.setCells {t : TypeId} : ∀ (vs : List Value) (o : Nat) {w : World} {cur : Array Value}, Blk w g t cur → ∃ cur', Blk (w.setCells g o vs) g t cur' ∧ cur'.size = cur.size ∧ ∀ n, n ≤ o → cur'.toList.take n = cur.toList.take n
  | [], _, w, cur, h => ⟨cur, h, rfl, fun _ _ => rfl⟩
  | v :: r, o, w, cur, h => by
    obtain ⟨cur', h1, h2, h3⟩ := Blk.setCells r (o + 1) (h.set_ o v)
    refine ⟨cur', h1, by simpa using h2, fun n hn => ?_⟩
    rw [h3 n (by omega)]
    simp only [Array.toList_setIfInBounds, List.take_set]
    rw [List.set_eq_of_length_le (by simp; omega)]
theorem Keep.setCells {g : Nat} (hg : ¬ X g) : ∀ (vs : List Value) (o : Nat) (w : World), Keep X w (w.setCells g o vs)
  | [], _, _ => Keep.refl _ _
  | v :: r, o, w => ((Keep.refl X w).setCell hg v).trans (Keep.setCells hg r (o + 1) _)
theorem Row.clear (h : Row w g cap L) (i : Nat) (hi : i ≤ L.length) (vs : List Value) : Row (w.setCells g (i * 3) vs) g cap (L.take i) := by
  obtain ⟨cur, hB, hs, hl, ht⟩ := h
  obtain ⟨cur', h1, h2, h3⟩ := Blk.setCells vs (i * 3) hB
  refine ⟨cur', h1, h2.trans hs, by simp; omega, ?_⟩
  have hl' : (L.take i).length = i := by simp; omega
  rw [hl', h3 _ (Nat.le_refl _), ← flat_take, ← ht, List.take_take]
  congr 1
  omega
end

theorem zero103 (w : World) : (zeroValue 103).run Try.prog w = .ok (.agg #[.int .i64 0, .int .i64 0, .int .i64 0]) w := by kernel_rfl
/-- 'clear(s[i:])' on what waits. -/
theorem run_clear3 (w : World) (g cap : Nat) (L : List Wt) (h : Row w g cap L) (i : Nat) (hi : i < L.length) :
    ∃ vs, ∀ ty c, (Builtin.clear_ #[87] ty #[.slice (some ⟨g, i * 3, none⟩) (L.length - i) c]).run Try.prog w = .ok (.tuple #[]) (w.setCells g (i * 3) vs) := by
  obtain ⟨cur, hB, hs, hl, ht⟩ := h
  refine ⟨(Builtin.zeroCells #[.int .i64 0, .int .i64 0, .int .i64 0] (L.length - i)).toList, fun ty c => ?_⟩
  have hz : ∀ u ∈ (Builtin.zeroCells #[.int .i64 0, .int .i64 0, .int .i64 0] (L.length - i)).toList, u = Value.int .i64 0 := by
    intro u hu
    simp only [Builtin.zeroCells, Array.toList_map, List.mem_map] at hu
    obtain ⟨j, _, rfl⟩ := hu
    have : j % 3 = 0 ∨ j % 3 = 1 ∨ j % 3 = 2 := by omega
    rcases this with e | e | e <;> simp [e]
  have hlen : (Builtin.zeroCells #[Value.int .i64 0, .int .i64 0, .int .i64 0] (L.length - i)).toList.length = (L.length - i) * 3 := by simp [Builtin.zeroCells]
  have hst := run_storeCells_cells (P := Try.prog) g (i * 3) (Builtin.zeroCells #[.int .i64 0, .int .i64 0, .int .i64 0] (L.length - i)).toList 0 w
    (fun j hj => by
      rw [hlen] at hj
      rw [hB.cell, Option.isSome_iff_exists]
      exact ⟨_, Array.getElem?_eq_getElem (by rw [hs]; omega)⟩) (fun j _ => hB.frozen _) (fun u hu => by rw [hz u hu]; rfl)
  simp only [Nat.add_zero] at hst
  generalize hvs : (Builtin.zeroCells #[Value.int .i64 0, .int .i64 0, .int .i64 0] (L.length - i)).toList = vs at hst ⊢
  obtain ⟨m, hm⟩ : ∃ m, L.length - i = m + 1 := ⟨L.length - i - 1, by omega⟩
  rw [hm] at hvs ⊢
  simp [Builtin.clear_, run_underlying Try.underlying87, Value.cells, hvs, hst]
end Go.Proofs.Ytiiaajdkkofbjaa
