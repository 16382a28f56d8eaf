/-
  Joined texts (Sx0). No condition.
-/
import Derived.Test.YtfkbbbjicaedmaaGreatDoorUMA
import Derived.Deep.RegionHeld3
import Derived.Deep.LoopGhost
import Derived.Lib.Hide
import Derived.Test.YtfkbbbjicaedmaaGreatDoorUMG
namespace Go.Proofs.YtfkbbbjicaedmaaGreatDoor
open Go.RowKit Go.Maps
set_option linter.unusedVariables false
set_option linter.unusedSimpArgs false
theorem wanted_free {o : Oper} {y : Nat → Option Bool} (h : o.guard = none) : Region.wanted o y = true := by unfold Region.wanted; rw [h]
theorem wanted_is {ops : Array Oper} {o : Oper} {a : Act} {j d : Nat} {b want r : Bool} (hg : o.guard = some (j, want)) (hj : (ops[j]?).bind (·.dst) = some d) (h : a.tmps[d]? = some (.bool b)) (hr : (b == want) = r) : Region.wanted o (yielded ops a.tmps) = r := by
  unfold Region.wanted yielded
  rw [hg]
  simp only [hj, Option.bind_some, h]
  subst hr
  cases b <;> cases want <;> rfl
theorem blk_on {w w' : World} {g : Nat} {t : TypeId} {cs : Array Value} (h : Blk w g t cs) (k : Keep (fun g => g < w.heap.size) w w') : Blk w' g t cs := h.keep k h.lt
theorem keep_onto {w W V : World} (h : Keep (fun g => g < w.heap.size) w W) (k : Keep (fun g => g < W.heap.size) W V) : Keep (fun g => g < w.heap.size) w V := h.trans (k.less (fun g hg => Nat.lt_of_lt_of_le hg h.size))
structure FrS (n : Nat) (a : Act) : Prop where
  size : a.tmps.size = n
  defers : a.defers = []
theorem FrS.put {n : Nat} {a a' : Act} (h : FrS n a) {d : Nat} {v : Value} (he : a' = a.put (some d) v) : FrS n a' := by
  subst he
  exact ⟨by show (a.tmps.setIfInBounds d v).size = n; rw [Array.size_setIfInBounds]; exact h.size, h.defers⟩
theorem FrS.at_ {n : Nat} {a a' : Act} (h : FrS n a) {d : Nat} {v : Value} (he : a' = a.put (some d) v) (hd : d < n) : a'.tmps[d]? = some v := by
  subst he
  show (a.tmps.setIfInBounds d v)[d]? = _
  rw [Array.getElem?_setIfInBounds_self, if_pos (by rw [h.size]; exact hd)]
theorem slot_on {a a' : Act} {d k : Nat} {v u : Value} (he : a' = a.put (some d) v) (hk : a.tmps[k]? = some u) (hne : d ≠ k) : a'.tmps[k]? = some u := by
  subst he
  show (a.tmps.setIfInBounds d v)[k]? = _
  rw [Array.getElem?_setIfInBounds_ne hne]; exact hk
theorem eval_slot {a : Act} {t : Nat} {v : Value} (h : a.tmps[t]? = some v) : a.eval (.tmp t) = v := by
  show a.tmps.getD t undef = v
  rw [Array.getD_eq_getD_getElem?, h]; rfl
section
variable {P : Program} {ops : Array Oper} {Q : Exit → Act → World → Prop} {S : World → Prop}
theorem reg_in {id : Nat} {l : List Nat} {a : Act} {w : World} (hr : List.range ops.size = l) (h : wpOps P ops Q l a w) : (Code.region id ops false).wp P Q a w := wp_region (by rw [hr]; exact h)
theorem st_end {a : Act} {w : World} (h : Q .normal a w) : wpOps P ops Q [] a w := by unfold wpOps; exact h
theorem st_val {i d : Nat} {oi : Oper} {v : Value} {rest : List Nat} {a : Act} {w w' : World} (hi : ops[i]? = some oi) (hd : oi.dst = some d) (hw : Region.wanted oi (yielded ops a.tmps) = true)
    (hy : (execOp a.eval oi).run P w = .ok (.value v) w') (h : ∀ a', a' = a.put (some d) v → wpOps P ops Q rest a' w') : wpOps P ops Q (i :: rest) a w := by
  rw [wpOps_cons]
  unfold wpOp
  rw [hi]
  show if Region.wanted oi (yielded ops a.tmps) = true then _ else _
  rw [if_pos hw]
  refine Or.inl ?_
  show oi.upon P a _ Q ((execOp a.eval oi).run P w)
  rw [hy, Oper.upon_value, hd]
  exact h _ rfl
theorem st_skip {i : Nat} {oi : Oper} {rest : List Nat} {a : Act} {w w' : World} (hi : ops[i]? = some oi) (hd : oi.dst = none) (hw : Region.wanted oi (yielded ops a.tmps) = true)
    (hy : (execOp a.eval oi).run P w = .ok .skip w') (h : wpOps P ops Q rest a w') : wpOps P ops Q (i :: rest) a w := by
  rw [wpOps_cons]
  unfold wpOp
  rw [hi]
  show if Region.wanted oi (yielded ops a.tmps) = true then _ else _
  rw [if_pos hw]
  refine Or.inl ?_
  show oi.upon P a _ Q ((execOp a.eval oi).run P w)
  rw [hy, Oper.upon_skip, hd]
  exact h
theorem st_call {i d : Nat} {oi : Oper} {f : FuncId} {args : Array Value} {rest : List Nat} {a : Act} {w : World} (hi : ops[i]? = some oi) (hd : oi.dst = some d) (hw : Region.wanted oi (yielded ops a.tmps) = true)
    (hy : (execOp a.eval oi).run P w = .ok (.enter f args) w) (h : Calls P f args w fun e w' => ∃ v, e = .returned v ∧ ∀ a', a' = a.put (some d) v → wpOps P ops Q rest a' w') : wpOps P ops Q (i :: rest) a w := by
  rw [wpOps_cons]
  unfold wpOp
  rw [hi]
  show if Region.wanted oi (yielded ops a.tmps) = true then _ else _
  rw [if_pos hw]
  refine Or.inl ?_
  show oi.upon P a _ Q ((execOp a.eval oi).run P w)
  rw [hy, Oper.upon_enter]
  refine Calls.mono h fun e w' he => ?_
  obtain ⟨v, rfl, hk⟩ := he
  rw [hd]
  exact hk _ rfl
theorem st_not {i d : Nat} {oi : Oper} {rest : List Nat} {a : Act} {w : World} (hi : ops[i]? = some oi) (hd : oi.dst = some d) (hw : Region.wanted oi (yielded ops a.tmps) = false)
    (h : ∀ a', a' = a.put (some d) undef → wpOps P ops Q rest a' w) : wpOps P ops Q (i :: rest) a w := by
  rw [wpOps_cons]
  unfold wpOp
  rw [hi]
  show if Region.wanted oi (yielded ops a.tmps) = true then _ else _
  rw [hw, if_neg (by decide), hd]
  exact h _ rfl
theorem dr_in {id n : Nat} {l : Array Bool} {a : Act} {w : World} (hm : P.follows .mixedOrders = true) (hS : S w.drew) (hn : ops.size = n) (hl : Array.replicate n false = l)
    (h : wpAnyH P .any ops (NoPanic Q) S n l a w.drew) : (Code.region id ops true).wp P Q a w :=
  wp_region_noPanic (wp_region_held_drew hm hS fun _ => by rw [hn, hl]; exact h)
theorem dr_end {n : Nat} {listed : Array Bool} {a : Act} {w : World} (hr : Region.ready .any ops listed = []) (h : Q .normal a w) : wpAnyH P .any ops (NoPanic Q) S n listed a w := wpAnyH_done hr (NoPanic.normal h) _
theorem dr_take {i d : Nat} {oi : Oper} {v : Value} {fuel : Nat} {listed l' : Array Bool} {a : Act} {w : World}
    (hi : ops[i]? = some oi) (hd : oi.dst = some d) (hs : Region.noSelect ops = true) (hf : Region.free .any ops listed i = true) (hr : (Region.ready .any ops listed).contains i = true)
    (hl : listed.setIfInBounds i true = l') (hw : Region.wanted oi (yielded ops a.tmps) = true) (hS : S w)
    (hy : ∀ w, S w → (execOp a.eval oi).run P w = .ok (.value v) w)
    (h : ∀ a', a' = a.put (some d) v → wpAnyH P .any ops (NoPanic Q) S fuel l' a' w) : wpAnyH P .any ops (NoPanic Q) S (fuel + 1) listed a w := by
  subst hl
  refine wpAnyH_take hi hs hf hr (fun _ _ _ h => h) (Or.inl ⟨hw, hy⟩) hS ?_
  rw [hd]
  exact h _ rfl
theorem dr_val {i d : Nat} {oi : Oper} {v : Value} {fuel : Nat} {listed l' : Array Bool} {a : Act} {w w' : World}
    (hi : ops[i]? = some oi) (hd : oi.dst = some d) (hl : listed.setIfInBounds i true = l') (hw : Region.wanted oi (yielded ops a.tmps) = true)
    (hy : (execOp a.eval oi).run P w = .ok (.value v) w') (hS : S w')
    (h : ∀ a', a' = a.put (some d) v → wpAnyH P .any ops (NoPanic Q) S fuel l' a' w') : wpOp P ops (NoPanic Q) i (fun a' w' => S w' ∧ wpAnyH P .any ops (NoPanic Q) S fuel (listed.setIfInBounds i true) a' w') a w := by
  subst hl
  unfold wpOp
  rw [hi]
  show if Region.wanted oi (yielded ops a.tmps) = true then _ else _
  rw [if_pos hw]
  refine Or.inl ?_
  show oi.upon P a _ (NoPanic Q) ((execOp a.eval oi).run P w)
  rw [hy, Oper.upon_value, hd]
  exact ⟨hS, h _ rfl⟩
theorem dr_skip {i : Nat} {oi : Oper} {fuel : Nat} {listed l' : Array Bool} {a : Act} {w w' : World}
    (hi : ops[i]? = some oi) (hd : oi.dst = none) (hl : listed.setIfInBounds i true = l') (hw : Region.wanted oi (yielded ops a.tmps) = true)
    (hy : (execOp a.eval oi).run P w = .ok .skip w') (hS : S w')
    (h : wpAnyH P .any ops (NoPanic Q) S fuel l' a w') : wpOp P ops (NoPanic Q) i (fun a' w' => S w' ∧ wpAnyH P .any ops (NoPanic Q) S fuel (listed.setIfInBounds i true) a' w') a w := by
  subst hl
  unfold wpOp
  rw [hi]
  show if Region.wanted oi (yielded ops a.tmps) = true then _ else _
  rw [if_pos hw]
  refine Or.inl ?_
  show oi.upon P a _ (NoPanic Q) ((execOp a.eval oi).run P w)
  rw [hy, Oper.upon_skip, hd]
  exact ⟨hS, h⟩
theorem dr_call {i d : Nat} {oi : Oper} {fuel : Nat} {listed l' : Array Bool} {a : Act} {w : World} {f : FuncId} {args : Array Value}
    (hi : ops[i]? = some oi) (hd : oi.dst = some d) (hl : listed.setIfInBounds i true = l') (hw : Region.wanted oi (yielded ops a.tmps) = true)
    (hy : (execOp a.eval oi).run P w = .ok (.enter f args) w)
    (h : Calls P f args w fun e w' => ∃ v, e = .returned v ∧ S w' ∧ ∀ a', a' = a.put (some d) v → wpAnyH P .any ops (NoPanic Q) S fuel l' a' w') : wpOp P ops (NoPanic Q) i (fun a' w' => S w' ∧ wpAnyH P .any ops (NoPanic Q) S fuel (listed.setIfInBounds i true) a' w') a w := by
  subst hl
  unfold wpOp
  rw [hi]
  show if Region.wanted oi (yielded ops a.tmps) = true then _ else _
  rw [if_pos hw]
  refine Or.inl ?_
  show oi.upon P a _ (NoPanic Q) ((execOp a.eval oi).run P w)
  rw [hy, Oper.upon_enter]
  refine Calls.mono h fun e w' he => ?_
  obtain ⟨v, rfl, hS, hk⟩ := he
  show S w' ∧ wpAnyH _ _ _ _ _ _ _ (a.put oi.dst v) w'
  rw [hd]
  exact ⟨hS, hk _ rfl⟩
theorem dr_only {i : Nat} {fuel : Nat} {listed : Array Bool} {a : Act} {w : World} (hr : Region.ready .any ops listed = [i])
    (h : wpOp P ops (NoPanic Q) i (fun a' w' => S w' ∧ wpAnyH P .any ops (NoPanic Q) S fuel (listed.setIfInBounds i true) a' w') a w) : wpAnyH P .any ops (NoPanic Q) S (fuel + 1) listed a w :=
  wpAnyH_all hr (by simp) fun j hj => by rw [List.mem_singleton.1 hj]; exact h
theorem dr_two {i k : Nat} {fuel : Nat} {listed : Array Bool} {a : Act} {w : World} (hr : Region.ready .any ops listed = [i, k])
    (h : wpOp P ops (NoPanic Q) i (fun a' w' => S w' ∧ wpAnyH P .any ops (NoPanic Q) S fuel (listed.setIfInBounds i true) a' w') a w)
    (h' : wpOp P ops (NoPanic Q) k (fun a' w' => S w' ∧ wpAnyH P .any ops (NoPanic Q) S fuel (listed.setIfInBounds k true) a' w') a w) : wpAnyH P .any ops (NoPanic Q) S (fuel + 1) listed a w :=
  wpAnyH_all hr (by simp) fun j hj => by
    rcases List.mem_cons.1 hj with rfl | hj
    · exact h
    · rw [List.mem_singleton.1 hj]; exact h'
theorem ret_one {fn : Func} {R : Ending → World → Prop} {a : Act} {w : World} {v : Value} {t n : Nat} (hr : fn.results = #[.tmp t]) (hF : FrS n a) (h : a.tmps[t]? = some v) (hR : R (.returned v) w) : bodyPost P fn R .ret a w :=
  ⟨hF.defers, v, by rw [results_tmp hr, Array.getD_eq_getD_getElem?, h]; rfl, hR⟩
end
end Go.Proofs.YtfkbbbjicaedmaaGreatDoor
namespace Go.Proofs.YtfkbbbjicaedmaaGreatDoor
open Go.RowKit Go.Maps
set_option linter.unusedVariables false
set_option linter.unusedSimpArgs false
theorem enter_sx {P : Program} {f : FuncId} {fn : Func} {c : Code} {args : Array Value} {w : World} {R : Ending → World → Prop} {n : Nat} (hf : P.funcs[f]? = some fn) (hb : fn.body = some c) (hn : fn.ntmps = n) (hs : args.size ≤ n)
    (h : ∀ a : Act, FrS n a → (∀ (k : Nat) (v : Value), args[k]? = some v → a.tmps[k]? = some v) → c.wp P (bodyPost P fn R) a w) : Calls P f args w R := by
  refine calls_of_wp hf hb (h _ ⟨?_, rfl⟩ fun k v hk => ?_)
  · show (args ++ Array.replicate (fn.ntmps - args.size) undef).size = n
    rw [Array.size_append, Array.size_replicate, hn]; omega
  · show (args ++ Array.replicate (fn.ntmps - args.size) undef)[k]? = some v
    have hlt : k < args.size := by
      rcases Nat.lt_or_ge k args.size with h | h
      · exact h
      · rw [Array.getElem?_eq_none h] at hk; cases hk
    rw [Array.getElem?_append_left hlt]; exact hk
theorem cell_on {w w' : World} {b k : Nat} {v : Value} (h : w.cell? ⟨b, k, none⟩ = some v) (hk : Keep (fun g => g < w.heap.size) w w') : w'.cell? ⟨b, k, none⟩ = some v := by
  have hb : b < w.heap.size := World.block_lt_of_cell? w ⟨b, k, none⟩ h
  have := hk.block b hb hb
  unfold World.cell? at h ⊢
  simp only at h ⊢
  rw [this]; exact h
end Go.Proofs.YtfkbbbjicaedmaaGreatDoor
namespace Go.Proofs.YtfkbbbjicaedmaaGreatDoor
open Go.RowKit Go.Maps
set_option linter.unusedVariables false
set_option linter.unusedSimpArgs false
section
variable {w : World} {t u x : Tm} {a b : Option Addr} {c d : Nat}
theorem tmsl_on {w' : World} {ps : List TP} (h : TmSl w.heap.size w a ps) (k : Keep (fun g => g < w.heap.size) w w') : TmSl w'.heap.size w' a ps := fun j p hp => by
  obtain ⟨⟨b, off, ha, hb, hc⟩, ht⟩ := h j p hp
  exact ⟨⟨b, off, ha, Nat.lt_of_lt_of_le hb k.size, fun f v hv => cell_on (hc f v hv) k⟩, ht.on k⟩
theorem tmsl_addr {B : Nat} {ps : List TP} (h : TmSl B w a ps) {j : Nat} (hj : j < ps.length) : ∃ b off, a = some ⟨b, off, none⟩ ∧ b < B := by
  obtain ⟨⟨b, off, ha, hb, _⟩, _⟩ := h j _ (List.getElem?_eq_getElem hj)
  exact ⟨b, off, ha, hb⟩
theorem tmsl_at {B b off : Nat} {ps : List TP} (h : TmSl B w a ps) (ha : a = some ⟨b, off, none⟩) {j : Nat} {p : TP} (hj : ps[j]? = some p) : (w.cell? ⟨b, off + j * 4, none⟩ = some (.int .i64 p.1.k) ∧ w.cell? ⟨b, off + j * 4 + 1, none⟩ = some (.string (str p.1.nm)) ∧ w.cell? ⟨b, off + j * 4 + 2, none⟩ = some (.int .i64 p.1.i) ∧ w.cell? ⟨b, off + j * 4 + 3, none⟩ = some (.slice p.2.1 p.1.args.length p.2.2)) ∧ TmAt B w p.1 p.2.1 p.2.2 := by
  obtain ⟨⟨b', off', ha', hb, hc⟩, ht⟩ := h j p hj
  rw [ha] at ha'
  cases ha'
  exact ⟨⟨hc 0 _ rfl, hc 1 _ rfl, hc 2 _ rfl, hc 3 _ rfl⟩, ht⟩
end
end Go.Proofs.YtfkbbbjicaedmaaGreatDoor
