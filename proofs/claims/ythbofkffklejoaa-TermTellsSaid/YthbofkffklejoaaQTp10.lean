/-
  Depths looked at, rows as slices, orders: what the law of tellings asks. No condition.
-/
import Derived.Test.YthbofkffklejoaaQSx14
import Derived.Test.YthbofkffklejoaaQSx10
namespace Go.Proofs.Ythbofkffklejoaa
open Go.RowKit Go.Maps
set_option linter.unusedVariables false
set_option linter.unusedSimpArgs false
theorem le_maxN : ∀ (l : List Nat) (x : Nat), x ∈ l → x ≤ maxN l := by
  have h : ∀ (l : List Nat) (m x : Nat), (x ≤ m ∨ x ∈ l) → x ≤ l.foldl (fun d k => if d < k then k else d) m := by
    intro l
    induction l with
    | nil => intro m x h; simpa using h
    | cons y l ih =>
      intro m x h
      rw [List.foldl_cons]
      refine ih _ x ?_
      rcases h with h | h
      · left; split <;> omega
      · rcases List.mem_cons.1 h with rfl | h
        · left; split <;> omega
        · exact .inr h
  intro l x hx
  exact h l 0 x (.inr hx)
theorem nd_mem : ∀ (ts : List Tm) (x : Tm), x ∈ ts → x.nd ≤ ndL ts := by
  intro ts
  induction ts with
  | nil => intro x hx; simp at hx
  | cons y ts ih =>
    intro x hx
    rw [ndL_cons]
    rcases List.mem_cons.1 hx with rfl | hx
    · omega
    · have := ih x hx; omega
theorem ndL_up : ∀ (ts : List Tm) (m : Nat), (∀ x ∈ ts, x.nd ≤ m) → ndL ts ≤ m := by
  intro ts
  induction ts with
  | nil => intro m _; rw [ndL_nil]; omega
  | cons y ts ih =>
    intro m h
    rw [ndL_cons]
    have h1 := h y List.mem_cons_self
    have h2 := ih m fun x hx => h x (List.mem_cons_of_mem _ hx)
    omega
theorem nd_one (t : Tm) : 1 ≤ t.nd := by rw [t.nd_eq]; split <;> omega
theorem rd_eq : ∀ (n : Nat) (t : Tm), t.nd ≤ n + 1 → rd n t = t.nd := by
  intro n
  induction n with
  | zero => intro t h; have := nd_one t; unfold rd; omega
  | succ n ih =>
    intro t h
    unfold rd
    rw [t.nd_eq] at h ⊢
    by_cases h4 : t.k = 4
    · rw [if_pos h4] at h ⊢
      rw [if_pos h4]
      have hb : ∀ x ∈ t.args, rd n x = x.nd := fun x hx => ih x (by have := nd_mem t.args x hx; omega)
      have h1 : maxN (t.args.map (rd n)) ≤ ndL t.args := maxN_le fun x hx => by
        obtain ⟨y, hy, rfl⟩ := List.mem_map.1 hx
        rw [hb y hy]; exact nd_mem _ _ hy
      have h2 : ndL t.args ≤ maxN (t.args.map (rd n)) := ndL_up _ _ fun x hx => by
        rw [← hb x hx]; exact le_maxN _ _ (List.mem_map.2 ⟨x, hx, rfl⟩)
      omega
    · rw [if_neg h4] at h ⊢
      rw [if_neg h4]
section
variable {w V : World} {t u : Tm} {a b : Option Addr} {c d : Nat}
theorem refdepth_sx {m : Nat} {z mi : Int} (hT : TmAt w.heap.size w t a c) (hm : m ≤ 1000) (hmi : (m : Int) = mi) (hz : (rd m t : Int) = z) :
    Calls Try.prog 23 #[tv t a c, .int .i64 mi] w fun e w' => e = .returned (.int .i64 z) ∧ Keep (fun g => g < w.heap.size) w w' := by
  subst hmi; subst hz; exact refDepth_any m hm t w a c hT
theorem reforder_sx {z : Int} (hT : TmAt w.heap.size w t a c) (hU : TmAt w.heap.size w u b d) (ht : t.right = true) (hu : u.right = true) (hz : t.tree.cmp u.tree = z) :
    Calls Try.prog 26 #[tv t a c, tv u b d] w fun e w' => e = .returned (.int .i64 z) ∧ Keep (fun g => g < w.heap.size) w w' := by
  subst hz; exact refOrder_any w.heap.size t (right_of.1 ht).1 u (right_of.1 hu).1 w a b c d (Nat.le_refl _) hT hU
theorem samerows_sx {B B' : Nat} {ua ub : Option Addr} {uc vc : Nat} {l : List Int} (h1 : w.ownsRow B 2 1 (.slice ua l.length uc) l.length (l.map (Value.int .i64))) (h2 : w.ownsRow B' 2 1 (.slice ub l.length vc) l.length (l.map (Value.int .i64))) (hl : l.length ≤ 100000) :
    Calls Try.prog 24 #[.slice ua l.length uc, .slice ub l.length vc] w fun e w' => e = .returned (.bool true) ∧ Keep (fun g => g < w.heap.size) w w' := by
  obtain ⟨a1, c1, e1, l1⟩ := row_longs h1
  obtain ⟨a2, c2, e2, l2⟩ := row_longs h2
  injection e1 with e1 _ _
  injection e2 with e2 _ _
  subst e1; subst e2
  refine Calls.mono (same_longs l1 l2 (by omega)) ?_
  rintro e w' ⟨rfl, q, rfl⟩
  exact ⟨rfl, (Keep.refl _ _).drewN q⟩
theorem rowK {B sz n : Nat} {ty : TypeId} {v : Value} {xs : List Value} (h : V.ownsRow B ty sz v n xs) (k : Keep (fun g => B ≤ g ∧ g < V.heap.size) V w) : w.ownsRow B ty sz v n xs :=
  row_on h k fun g hg => h.lt g hg
def IBl (w : World) (B H : Nat) (ua : Option Addr) (n : Nat) : Prop := 0 < n → ∃ g cur, ua = some ⟨g, 0, none⟩ ∧ B ≤ g ∧ g < H ∧ Blk w g 2 cur ∧ n ≤ cur.size ∧ ∀ j, j < n → ∃ z, cur[j]? = some (.int .i64 z)
theorem ibl_of {B : Nat} {ua : Option Addr} {uc : Nat} {l : List Int} (h : w.ownsRow B 2 1 (.slice ua l.length uc) l.length (l.map (Value.int .i64))) : IBl w B w.heap.size ua l.length := fun h0 => by
  rcases h.2 with ⟨_, h1⟩ | ⟨g, cap, cur, e, hb, hg, hnc, hcm, hcs, htk⟩
  · omega
  · injection e with e _ _
    subst e
    refine ⟨g, cur, rfl, hb, Blk.lt (cs := cur) (t := 2) hg, hg, by omega, fun j hj => ⟨l[j], ?_⟩⟩
    have : (cur.toList.take (l.length * 1))[j]? = (l.map (Value.int .i64))[j]? := by rw [htk]
    rw [List.getElem?_take, if_pos (by omega), List.getElem?_map, List.getElem?_eq_getElem hj] at this
    rw [← Array.getElem?_toList]; exact this
theorem IBl.on {B H n : Nat} {ua : Option Addr} {X : Nat → Prop} (h : IBl w B H ua n) (k : Keep X w V) (hX : ∀ g, B ≤ g → g < H → X g) : IBl V B H ua n := fun h0 => by
  obtain ⟨g, cur, e, h1, h2, h3, h4, h5⟩ := h h0
  exact ⟨g, cur, e, h1, h2, h3.keep k (hX g h1 h2), h4, h5⟩
theorem IBl.put {B H n j : Nat} {ua : Option Addr} {z : Int} (h : IBl w B H ua n) {g : Nat} (hg : ua = some ⟨g, 0, none⟩) (hj : j < n) : IBl (w.setCell ⟨g, j, none⟩ (.int .i64 z)) B H ua n := fun h0 => by
  obtain ⟨g', cur, e, h1, h2, h3, h4, h5⟩ := h h0
  rw [hg] at e; cases e
  refine ⟨g, _, hg, h1, h2, h3.set_ j _, by simpa using h4, fun i hi => ?_⟩
  rw [Array.getElem?_setIfInBounds]
  split
  · rw [if_pos (by omega)]; exact ⟨z, rfl⟩
  · exact h5 i hi
end
end Go.Proofs.Ythbofkffklejoaa
