/-
  Results that lie in a cell, and none; rows of terms that grow, for walks with letter frames. No condition.
-/
import Derived.Test.YtfkbbbjicaedmaaGreatDoorQMP
import Derived.Laws.Rows
import Derived.Shelf.Abstract
namespace Go.Proofs.YtfkbbbjicaedmaaGreatDoor
open Go.RowKit Go.Maps
set_option linter.unusedVariables false
set_option linter.unusedSimpArgs false
def lb_ (n m : Nat) : Array Bool := ((List.range n).map fun i => m.testBit i).toArray
def ed_ (n : Nat) : Edge := { on := n, ground := .data }
def ec_ (n : Nat) : Edge := { on := n, ground := .chain }
def eg_ (n : Nat) : Edge := { on := n, ground := .guard }
def ep_ (n : Nat) : Edge := { on := n, ground := .phase }
section
variable {w w' V : World} {o : Obj} {b b' : Nat} {t : TypeId} {cs : Array Value} {X : Nat → Prop}
theorem ba_ (hw : w' = w.alloc o) (h : Blk w b t cs) : Blk w' b t cs := by rw [hw]; exact h.alloc o
theorem ka_ (hw : w' = w.alloc o) (h : Keep X V w) : Keep X V w' := by rw [hw]; exact h.alloc o
theorem nb_ (hb : b' = w.heap.size) (h : Blk w b t cs) : b ≠ b' := by rw [hb]; exact Nat.ne_of_lt h.lt
theorem lk_ (hb : b = w.heap.size) (h : Keep X V w) : V.heap.size ≤ b := by rw [hb]; exact h.size
theorem kx_ (hk : Keep (fun g => g ≠ b) w w') (h : Keep X V w) (hX : ¬ X b) : Keep X V w' := h.trans (hk.less fun g hg e => hX (e ▸ hg))
theorem bx_ (hk : Keep (fun g => g ≠ b') w w') (h : Blk w b t cs) (hn : b ≠ b') : Blk w' b t cs := h.keep hk hn
end
section
variable {o : Oper} {a : Act} {w : World} {t u f : Nat} {v v0 v1 v2 c0 c1 c2 c3 : Value} {b : Nat} {tys : Array TypeId}
theorem ym_ (ho : o.op = .move (.tmp t)) (h : a.tmps[t]? = some v) : (execOp a.eval o).run Tryz.prog w = .ok (.value v) w := by
  unfold execOp; simp only [ho]; go_simp
theorem ya_ (ho : o.op = .assign (.tmp t)) (h : a.tmps[t]? = some v) : (execOp a.eval o).run Tryz.prog w = .ok (.value v) w := by
  unfold execOp; simp only [ho]; go_simp
theorem ye20_ (ho : o.op = .extract (.tmp t) 0) (h : a.tmps[t]? = some (.tuple #[v0, v1])) : (execOp a.eval o).run Tryz.prog w = .ok (.value v0) w := by
  unfold execOp; simp only [ho]; go_simp
theorem ye21_ (ho : o.op = .extract (.tmp t) 1) (h : a.tmps[t]? = some (.tuple #[v0, v1])) : (execOp a.eval o).run Tryz.prog w = .ok (.value v1) w := by
  unfold execOp; simp only [ho]; go_simp
theorem yc1_ (he : Enters Tryz.prog f) (ho : o.op = .call { callee := .value (.func f), args := #[.tmp t], argTypes := tys }) (h : a.tmps[t]? = some v) : (execOp a.eval o).run Tryz.prog w = .ok (.enter f #[v]) w := by
  unfold execOp; simp only [ho]; go_simp; exact he _ _
theorem yc2_ (he : Enters Tryz.prog f) (ho : o.op = .call { callee := .value (.func f), args := #[.tmp t, .tmp u], argTypes := tys }) (h : a.tmps[t]? = some v0) (h1 : a.tmps[u]? = some v1) : (execOp a.eval o).run Tryz.prog w = .ok (.enter f #[v0, v1]) w := by
  unfold execOp; simp only [ho]; go_simp; exact he _ _
def Ag_ (D : List Nat) (a a' : Act) : Prop := ∀ k, k ∉ D → a'.tmps[k]? = a.tmps[k]?
theorem Ag_.refl (a : Act) : Ag_ [] a a := fun _ _ => rfl
theorem Ag_.put {D : List Nat} {a a1 a' : Act} {d : Nat} (h : Ag_ D a a1) (e : a' = a1.put (some d) v) : Ag_ (d :: D) a a' := fun k hk => by
  have h1 : d ≠ k := fun he => hk (he ▸ List.mem_cons_self)
  subst e
  show (a1.tmps.setIfInBounds d v)[k]? = _
  rw [Array.getElem?_setIfInBounds_ne h1]
  exact h k fun hm => hk (List.mem_cons_of_mem _ hm)
theorem Ag_.of {D : List Nat} {a a' : Act} {k : Nat} (E : Ag_ D a a') (h : a.tmps[k]? = some v) (hk : k ∉ D := by decide) : a'.tmps[k]? = some v := (E k hk).trans h
end
structure FE_ (n : Nat) (D : List Nat) (a0 a : Act) : Prop where
  r : FrS n a
  e : Ag_ D a0 a
theorem FE_.of {n k : Nat} {D : List Nat} {a0 a : Act} {v : Value} (F : FE_ n D a0 a) (h : a0.tmps[k]? = some v) (hk : k ∉ D := by decide) : a.tmps[k]? = some v := F.e.of h hk
theorem pt_ {n d : Nat} {D : List Nat} {a0 a a' : Act} {v : Value} (F : FE_ n D a0 a) (e : a' = a.put (some d) v) (hd : d < n := by decide) : a'.tmps[d]? = some v := F.r.at_ e hd
theorem pu_ {n d : Nat} {D : List Nat} {a0 a a' : Act} {v : Value} (F : FE_ n D a0 a) (e : a' = a.put (some d) v) : FE_ n (d :: D) a0 a' := ⟨F.r.put e, F.e.put e⟩
theorem dt_ {P : Program} {ops : Array Oper} {Q : Exit → Act → World → Prop} {S : World → Prop} {i d : Nat} {oi : Oper} {v : Value} {fuel : Nat} {listed l' : Array Bool} {a : Act} {w : World}
    (hi : ops[i]? = some oi) (hd : oi.dst = some d) (hs : Region.noSelect ops = true) (hw : Region.wanted oi (yielded ops a.tmps) = true) (hS : S w)
    (hy : ∀ w, S w → (execOp a.eval oi).run P w = .ok (.value v) w)
    (h : ∀ a', a' = a.put (some d) v → wpAnyH P .any ops (NoPanic Q) S fuel l' a' w)
    (hf : Region.free .any ops listed i = true := by kernel_rfl) (hr : (Region.ready .any ops listed).contains i = true := by kernel_rfl) (hl : listed.setIfInBounds i true = l' := by kernel_rfl) : wpAnyH P .any ops (NoPanic Q) S (fuel + 1) listed a w :=
  dr_take hi hd hs hf hr hl hw hS hy h
theorem sv_ {P : Program} {ops : Array Oper} {Q : Exit → Act → World → Prop} {i d : Nat} {oi : Oper} {v : Value} {rest : List Nat} {a : Act} {w w' : World} (hi : ops[i]? = some oi) (hy : (execOp a.eval oi).run P w = .ok (.value v) w') (h : ∀ a', a' = a.put (some d) v → wpOps P ops Q rest a' w') (hd : oi.dst = some d := by rfl) (hw : Region.wanted oi (yielded ops a.tmps) = true := by exact wanted_free rfl) : wpOps P ops Q (i :: rest) a w := st_val hi hd hw hy h
theorem so_ {a a' : Act} {d k : Nat} {v u : Value} (he : a' = a.put (some d) v) (hk : a.tmps[k]? = some u) (hne : d ≠ k := by decide) : a'.tmps[k]? = some u := slot_on he hk hne
theorem infoT' : ∃ i z, Tryz.prog.info? 24 = some i ∧ i.zero = some z ∧ i.size = 4 ∧ i.bytes = 56 ∧ z.cells.size = 4 := by
  have h1 : ((Tryz.prog.info? 24).map fun i => (i.size, i.bytes, (i.zero.map fun z => z.cells.size))) = some (4, 56, some 4) := by kernel_rfl
  obtain ⟨i, hi, he⟩ := Option.map_eq_some_iff.1 h1
  obtain ⟨e1, e2⟩ := Prod.mk.inj he
  obtain ⟨e2, e3⟩ := Prod.mk.inj e2
  obtain ⟨z, hz, hz2⟩ := Option.map_eq_some_iff.1 e3
  exact ⟨i, z, hi, hz, e1, e2, hz2⟩
theorem yl4_ {o : Oper} {a : Act} {w : World} {t b : Nat} {c0 c1 c2 c3 : Value} (ho : o.op = .load 24 (.tmp t)) (h : a.tmps[t]? = some (.pointer (some ⟨b, 0, none⟩))) (hb : Blk w b 24 #[c0, c1, c2, c3]) : (execOp a.eval o).run Tryz.prog w = .ok (.value (.agg #[c0, c1, c2, c3])) w := by
  have z0 : w.cell? ⟨b, 0, none⟩ = some c0 := hb.cell 0
  have z1 : w.cell? ⟨b, 1, none⟩ = some c1 := hb.cell 1
  have z2 : w.cell? ⟨b, 2, none⟩ = some c2 := hb.cell 2
  have z3 : w.cell? ⟨b, 3, none⟩ = some c3 := hb.cell 3
  unfold execOp
  simp only [ho]
  go_simp
section
variable {o : Oper} {a : Act} {w : World} {t b : Nat} {c0 c1 c2 c3 : Value}
theorem yf0_ (ho : o.op = .fieldAddr 24 (.tmp t) 0) (h : a.tmps[t]? = some (.pointer (some ⟨b, 0, none⟩))) : (execOp a.eval o).run Tryz.prog w = .ok (.value (.pointer (some ⟨b, 0, none⟩))) w := by unfold execOp; simp only [ho]; go_simp
theorem yf1_ (ho : o.op = .fieldAddr 24 (.tmp t) 1) (h : a.tmps[t]? = some (.pointer (some ⟨b, 0, none⟩))) : (execOp a.eval o).run Tryz.prog w = .ok (.value (.pointer (some ⟨b, 1, none⟩))) w := by unfold execOp; simp only [ho]; go_simp
theorem yf2_ (ho : o.op = .fieldAddr 24 (.tmp t) 2) (h : a.tmps[t]? = some (.pointer (some ⟨b, 0, none⟩))) : (execOp a.eval o).run Tryz.prog w = .ok (.value (.pointer (some ⟨b, 2, none⟩))) w := by unfold execOp; simp only [ho]; go_simp
theorem yf3_ (ho : o.op = .fieldAddr 24 (.tmp t) 3) (h : a.tmps[t]? = some (.pointer (some ⟨b, 0, none⟩))) : (execOp a.eval o).run Tryz.prog w = .ok (.value (.pointer (some ⟨b, 3, none⟩))) w := by unfold execOp; simp only [ho]; go_simp
theorem yk0_ (ho : o.op = .load 3 (.tmp t)) (h : a.tmps[t]? = some (.pointer (some ⟨b, 0, none⟩))) (hb : Blk w b 24 #[c0, c1, c2, c3]) : (execOp a.eval o).run Tryz.prog w = .ok (.value c0) w := by
  have z0 : w.cell? ⟨b, 0, none⟩ = some c0 := hb.cell 0
  unfold execOp; simp only [ho]; go_simp
theorem yk1_ (ho : o.op = .load 9 (.tmp t)) (h : a.tmps[t]? = some (.pointer (some ⟨b, 1, none⟩))) (hb : Blk w b 24 #[c0, c1, c2, c3]) : (execOp a.eval o).run Tryz.prog w = .ok (.value c1) w := by
  have z0 : w.cell? ⟨b, 1, none⟩ = some c1 := hb.cell 1
  unfold execOp; simp only [ho]; go_simp
theorem yk2_ (ho : o.op = .load 2 (.tmp t)) (h : a.tmps[t]? = some (.pointer (some ⟨b, 2, none⟩))) (hb : Blk w b 24 #[c0, c1, c2, c3]) : (execOp a.eval o).run Tryz.prog w = .ok (.value c2) w := by
  have z0 : w.cell? ⟨b, 2, none⟩ = some c2 := hb.cell 2
  unfold execOp; simp only [ho]; go_simp
theorem yk3_ (ho : o.op = .load 22 (.tmp t)) (h : a.tmps[t]? = some (.pointer (some ⟨b, 3, none⟩))) (hb : Blk w b 24 #[c0, c1, c2, c3]) : (execOp a.eval o).run Tryz.prog w = .ok (.value c3) w := by
  have z0 : w.cell? ⟨b, 3, none⟩ = some c3 := hb.cell 3
  unfold execOp; simp only [ho]; go_simp
theorem ys4_ {u n c : Nat} {x y : Int} {s : ByteArray} {p : Option Addr} (ho : o.op = .store 24 (.tmp t) (.tmp u)) (h : a.tmps[t]? = some (.pointer (some ⟨b, 0, none⟩))) (hu : a.tmps[u]? = some (.agg #[.int .i64 x, .string s, .int .i64 y, .slice p n c])) (hb : Blk w b 24 #[c0, c1, c2, c3]) :
    ∃ w', (execOp a.eval o).run Tryz.prog w = .ok .skip w' ∧ Keep (fun g => g ≠ b) w w' ∧ Blk w' b 24 #[.int .i64 x, .string s, .int .i64 y, .slice p n c] := by
  have z0 : w.cell? ⟨b, 0, none⟩ = some c0 := hb.cell 0
  have z1 : w.cell? ⟨b, 1, none⟩ = some c1 := hb.cell 1
  have z2 : w.cell? ⟨b, 2, none⟩ = some c2 := hb.cell 2
  have z3 : w.cell? ⟨b, 3, none⟩ = some c3 := hb.cell 3
  have f0 := hb.frozen 0; have f1 := hb.frozen 1; have f2 := hb.frozen 2; have f3 := hb.frozen 3
  refine ⟨(((w.setCell ⟨b, 0, none⟩ (.int .i64 x)).setCell ⟨b, 1, none⟩ (.string s)).setCell ⟨b, 2, none⟩ (.int .i64 y)).setCell ⟨b, 3, none⟩ (.slice p n c), ?_, ((((Keep.refl _ _).setCell (fun h => h rfl) _).setCell (fun h => h rfl) _).setCell (fun h => h rfl) _).setCell (fun h => h rfl) _, (((hb.set_ 0 _).set_ 1 _).set_ 2 _).set_ 3 _⟩
  unfold execOp; simp only [ho]; go_simp
end
section
variable {fn : Func} {R : Ending → World → Prop} {a : Act} {w : World} {t u n b : Nat} {c0 c1 c2 c3 v : Value}
theorem ret_cell (hr : fn.results = #[.cell t 24]) (hF : FrS n a) (h : a.tmps[t]? = some (.pointer (some ⟨b, 0, none⟩))) (hb : Blk w b 24 #[c0, c1, c2, c3]) (hR : R (.returned (.agg #[c0, c1, c2, c3])) w) : bodyPost Tryz.prog fn R .ret a w := by
  obtain ⟨i, z, h1, _, h3, _⟩ := infoT'
  refine ⟨hF.defers, _, results_cell_row hr a.tmps w b 24 #[c0, c1, c2, c3] (0, 0) _ (by rw [Array.getD_eq_getD_getElem?, h]; rfl) hb Tryz.underlying24 rfl (by rw [h1]; simp [h3]), hR⟩
end
section
variable {B : Nat} {w w1 w2 : World} {v : Value} {ps : List TP} {p : TP} {t : Tm} {a : Option Addr} {c : Nat}
end
end Go.Proofs.YtfkbbbjicaedmaaGreatDoor
