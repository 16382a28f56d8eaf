/-
  A block of memory known whole; a frame: what the blocks of a set held they hold. (The same words as in the text Arena, for seats without package cells: never import both.) No condition.
-/
import Derived.Test.YtbfnadpkgiglmaaRows
import Derived.Maps.OwnSet
import Derived.WalkKit
import Derived.Deep.Draws
namespace Go.Proofs.Ytbfnadpkgiglmaa
open Go.RowKit Go.Maps

/-! ### In memory -/
/-- A block known whole, none of its cells frozen. -/
def Blk (w : World) (g : Nat) (t : TypeId) (cs : Array Value) : Prop := w.heap[g]? = some (.cells cs t (0, 0))
/-- What the blocks of X held they hold; no block has gone. -/
structure Keep (X : Nat → Prop) (w w' : World) : Prop where
  os : w'.os = w.os
  tape : w'.tape = w.tape
  output : w'.output = w.output
  size : w.heap.size ≤ w'.heap.size
  block : ∀ k, k < w.heap.size → X k → w'.heap[k]? = w.heap[k]?

section
variable {w w' w'' : World} {g : Nat} {t : TypeId} {cs : Array Value} {X : Nat → Prop}
theorem Blk.lt (h : Blk w g t cs) : g < w.heap.size := by
  rcases Nat.lt_or_ge g w.heap.size with hlt | hge
  · exact hlt
  · unfold Blk at h; rw [Array.getElem?_eq_none hge] at h; cases h
theorem Blk.cell (h : Blk w g t cs) (i : Nat) : w.cell? ⟨g, i, none⟩ = cs[i]? := cell_of_row w g i cs t (0, 0) h
theorem Blk.frozen (h : Blk w g t cs) (i : Nat) : w.frozen? ⟨g, i, none⟩ = false := by
  unfold Blk at h
  simp [World.frozen?, h]
theorem Blk.new (w : World) (t : TypeId) (cs : Array Value) : Blk (w.alloc (.cells cs t)) w.heap.size t cs := heap_alloc_new w _
theorem Blk.drew (h : Blk w g t cs) : Blk w.drew g t cs := h
theorem Blk.alloc (h : Blk w g t cs) (o : Obj) : Blk (w.alloc o) g t cs := (Below.heap_alloc w o g h.lt).trans h
theorem Blk.set_ (h : Blk w g t cs) (i : Nat) (u : Value) : Blk (w.setCell ⟨g, i, none⟩ u) g t (cs.setIfInBounds i u) := by
  unfold Blk at h ⊢
  simp [World.setCell, Array.getElem?_modify, h]
theorem Blk.far (h : Blk w g t cs) {p : Addr} (hp : g ≠ p.block) (u : Value) : Blk (w.setCell p u) g t cs := (Below.heap_setCell w p u g hp).trans h
theorem Blk.keep (h : Blk w g t cs) (hk : Keep X w w') (hX : X g) : Blk w' g t cs := (hk.block g h.lt hX).trans h
theorem Blk.below {B : Nat} (h : Blk w g t cs) (hb : Below B w w') (hg : g < B) : Blk w' g t cs := (hb.block g hg).trans h
theorem Blk.ne_ {g' : Nat} {t' : TypeId} {cs' : Array Value} (h : Blk w g t cs) (h' : Blk w g' t' cs') (hne : t ≠ t') : g ≠ g' := by
  rintro rfl
  unfold Blk at h h'
  rw [h] at h'
  injection h' with h'
  injection h' with _ ht
  exact hne ht

theorem Keep.refl (X : Nat → Prop) (w : World) : Keep X w w := ⟨rfl, rfl, rfl, Nat.le_refl _, fun _ _ _ => rfl⟩
theorem Keep.trans (h : Keep X w w') (k : Keep X w' w'') : Keep X w w'' :=
  ⟨k.os.trans h.os, k.tape.trans h.tape, k.output.trans h.output, Nat.le_trans h.size k.size, fun i hi hX => (k.block i (Nat.lt_of_lt_of_le hi h.size) hX).trans (h.block i hi hX)⟩
theorem Keep.less {Y : Nat → Prop} (h : Keep X w w') (hY : ∀ k, Y k → X k) : Keep Y w w' := ⟨h.os, h.tape, h.output, h.size, fun k hk hX => h.block k hk (hY k hX)⟩
theorem Keep.drew (h : Keep X w w') : Keep X w w'.drew := ⟨h.os, h.tape, h.output, h.size, h.block⟩
theorem Keep.drewN (h : Keep X w w') (n : Nat) : Keep X w (w'.drewN n) := ⟨h.os, h.tape, h.output, h.size, h.block⟩
theorem Keep.alloc (h : Keep X w w') (o : Obj) : Keep X w (w'.alloc o) :=
  h.trans ⟨rfl, rfl, rfl, by simp, fun k hk _ => Below.heap_alloc _ _ _ hk⟩
theorem Keep.setCell (h : Keep X w w') {p : Addr} (hp : ¬ X p.block) (u : Value) : Keep X w (w'.setCell p u) :=
  h.trans ⟨rfl, rfl, rfl, by simp [World.setCell], fun k hk hX => Below.heap_setCell _ _ _ _ (fun e => hp (e ▸ hX))⟩
theorem Keep.turned {b : Nat} (h : Keep X w w') (hm : w'.mapTurned w'' b) (hb : ¬ X b) : Keep X w w'' :=
  have hg := hm.grown
  h.trans ⟨hg.os, hg.tape, hg.output, hg.size, fun k hk hX => hg.block k hk (fun e => hb (by cases e; exact hX))⟩
theorem Keep.all (h : Keep (· < w.heap.size) w w') {Y : Nat → Prop} : Keep Y w w' := ⟨h.os, h.tape, h.output, h.size, fun k hk _ => h.block k hk hk⟩
theorem Keep.toBelow {B : Nat} (h : Keep X w w') (hB : ∀ k, k < B → X k) (hs : B ≤ w.heap.size) : Below B w w' :=
  ⟨h.os, h.tape, h.output, h.size, fun k hk => h.block k (Nat.lt_of_lt_of_le hk hs) (hB k hk)⟩
theorem Keep.toBelowOf {B : Nat} (h : Keep X w w') (hB : ∀ k, k < w.heap.size → k < B → X k) (hs : B ≤ w.heap.size) : Below B w w' :=
  ⟨h.os, h.tape, h.output, h.size, fun k hk => h.block k (Nat.lt_of_lt_of_le hk hs) (hB k (Nat.lt_of_lt_of_le hk hs) hk)⟩
theorem Keep.ofBelow {B : Nat} (h : Below B w w') (hX : ∀ k, X k → k < B) : Keep X w w' :=
  ⟨h.os, h.tape, h.output, h.size, fun k _ hk => h.block k (hX k hk)⟩
end

end Go.Proofs.Ytbfnadpkgiglmaa
