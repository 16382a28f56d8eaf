/-
  Joined texts on terms. No condition.
-/
import Derived.Test.YtmgephleogiaoaaQN1
import Derived.Test.YtmgephleogiaoaaQMA
import Derived.Test.YtmgephleogiaoaaQMB
import Derived.Test.YtmgephleogiaoaaQMC
import Derived.Test.YtmgephleogiaoaaQMD
import Derived.Test.YtmgephleogiaoaaQME
import Derived.Test.YtmgephleogiaoaaQMF
import Derived.Test.YtmgephleogiaoaaQMG
import Derived.Laws.Rows
import Derived.Shelf.Abstract
import Derived.WideShapes
import Derived.SizedLaws
namespace Go.Proofs.Ytmgephleogiaoaa
open Go.RowKit Go.Maps
set_option linter.unusedVariables false
set_option linter.unusedSimpArgs false
section
variable {w : World} {t u x : Tm} {a b : Option Addr} {c d : Nat}
theorem check_t (hT : TmAt w.heap.size w t a c) (h : t.right = true) : Calls Try.prog 26 #[tv t a c] w fun e w' => e = .returned (.int .i64 0) ∧ Keep (fun g => g < w.heap.size) w w' := by
  have := check_any hT; rw [h] at this; exact this
theorem check_f (hT : TmAt w.heap.size w t a c) (h : t.right = false) : Calls Try.prog 26 #[tv t a c] w fun e w' => e = .returned (.int .i64 70) ∧ Keep (fun g => g < w.heap.size) w w' := by
  have := check_any hT; rw [h] at this; exact this
theorem ik_wf {m : Int} (h1 : -9223372036854775808 ≤ m) (h2 : m ≤ 9223372036854775807) : (ik m).wf = true := by
  unfold Lit.wf
  have e1 : IntKind.i64.min = -9223372036854775808 := by decide
  have e2 : IntKind.i64.max = 9223372036854775807 := by decide
  simp [e1, e2]; omega
end
end Go.Proofs.Ytmgephleogiaoaa
namespace Go.Proofs.Ytmgephleogiaoaa
open Go.RowKit Go.Maps
set_option linter.unusedVariables false
set_option linter.unusedSimpArgs false
section
variable {w : World} {t u x : Tm} {a b : Option Addr} {c d : Nat}
end
end Go.Proofs.Ytmgephleogiaoaa
namespace Go.Proofs.Ytmgephleogiaoaa
set_option linter.unusedVariables false
def fRR (M b : Int) (L : Nat) : Int → T := fun y => if M ≤ y ∧ y < M + L then .v (b + (y - M)) else .v y
end Go.Proofs.Ytmgephleogiaoaa
namespace Go.Proofs.Ytmgephleogiaoaa
set_option linter.unusedVariables false
end Go.Proofs.Ytmgephleogiaoaa
namespace Go.Proofs.Ytmgephleogiaoaa
open Go.RowKit Go.Maps
set_option linter.unusedVariables false
set_option linter.unusedSimpArgs false
section
variable {w : World} {t u x : Tm} {a b : Option Addr} {c d : Nat}
theorem tm_row {B : Nat} {ps : List TP} {nm : List UInt8} {cap : Nat} (h : TmSl B w a ps) (hn : nm.length ≤ maxLen) (hl : ps.length ≤ maxLen) : TmAt B w (.node 4 nm 0 (ps.map (·.1))) a cap := by
  have hat : ∀ (j : Nat) (x : Tm), (Tm.node 4 nm 0 (ps.map (·.1))).args[j]? = some x → ∃ p, ps[j]? = some p ∧ p.1 = x := fun j x hj => by
    have hj' : (ps.map (·.1))[j]? = some x := hj
    rw [List.getElem?_map] at hj'
    obtain ⟨p, hp, he⟩ := Option.map_eq_some_iff.1 hj'
    exact ⟨p, hp, he⟩
  refine .mk _ _ _ (fun j => (ps[j]?.getD default).2.1) (fun j => (ps[j]?.getD default).2.2) (show (ik 4).wf = true from by decide) (show (ik 0).wf = true from by decide) hn (by show (ps.map (·.1)).length ≤ maxLen; rw [List.length_map]; exact hl) (fun j x hj => ?_) (fun j x hj => ?_)
  · obtain ⟨p, hp, rfl⟩ := hat j x hj
    obtain ⟨⟨b, off, ha, hb, hc⟩, _⟩ := h j p hp
    refine ⟨b, off, ha, hb, fun f v hv => hc f v ?_⟩
    simp only [hp, Option.getD_some] at hv
    exact hv
  · obtain ⟨p, hp, rfl⟩ := hat j x hj
    obtain ⟨_, ht⟩ := h j p hp
    simp only [hp, Option.getD_some]
    exact ht
theorem fr_in {B0 lo hi : Nat} {Q : Nat → Prop} {w' : World} (h : Fr B0 Q w lo hi t a c) (hB : B0 = 0) (k : Keep (fun g => lo ≤ g ∧ g < hi) w w') : Fr B0 Q w' lo hi t a c := by
  induction h with
  | old h hl => exact .old (h.keepX k (fun g hg => by omega)) hl
  | node hk1 hw hn h8 hlb hub hq blk hcp hs ih => exact .node hk1 hw hn h8 hlb hub hq (blk.keep k ⟨hlb, hub⟩) hcp ih
theorem fr_tm {lo : Nat} {V : World} {Q : Nat → Prop} {w' : World} (h : Fr 0 Q V lo V.heap.size t a c) (k : Keep (fun g => lo ≤ g ∧ g < V.heap.size) V w') : TmAt w'.heap.size w' t a c := ((fr_in h rfl k).at_ (Nat.zero_le _)).up k.size
theorem apply_fr {bs : List BP} {cap : Nat} {e : Int} (hS : BSl w.heap.size w a bs) (hT : TmAt w.heap.size w t b d) (hlen : bs.length ≤ 2305843009213693951) (ha : ∀ g off, a = some ⟨g, off, none⟩ → g < w.heap.size) (h : apV t bs = (x, e)) :
    Calls Try.prog 36 #[tv t b d, .slice a bs.length cap] w fun e' w' => ∃ a' c', e' = .returned (.tuple #[tv x a' c', .int .i64 e]) ∧ Fr 0 (fun _ => False) w' w.heap.size w'.heap.size x a' c' ∧ Keep (fun g => g < w.heap.size) w w' := by
  have hr := Apply_any (cap := cap) hS hT hlen ha
  rw [h] at hr
  exact hr
end
end Go.Proofs.Ytmgephleogiaoaa
namespace Go.Proofs.Ytmgephleogiaoaa
set_option linter.unusedVariables false
def notIn (l : List Int) (bs : List BP) : List BP := bs.filter (fun q => !among l q.1)
end Go.Proofs.Ytmgephleogiaoaa
namespace Go.Proofs.Ytmgephleogiaoaa
set_option linter.unusedVariables false
def addAll (l : List Int) : List Int → List Int
  | [] => l
  | x :: xs => addAll (if x ∈ l then l else l ++ [x]) xs
def szA (ts : List Tm) (j : Nat) : Nat := 1 + nsL (ts.take j)
def dpA (ts : List Tm) (j : Nat) : Nat := ndL (ts.take j)
def vaA (ts : List Tm) (j : Nat) : List Int := accL ((ts.take j).map Tm.tree) []
def T.times (x : Int) : T → Nat
  | .v y => if y = x then 1 else 0
  | .n _ => 0
  | .a _ => 0
  | .c _ args => timesL x args
where timesL (x : Int) : List T → Nat
  | [] => 0
  | t :: ts => t.times x + timesL x ts
end Go.Proofs.Ytmgephleogiaoaa
namespace Go.Proofs.Ytmgephleogiaoaa
set_option linter.unusedVariables false
structure Sols (t u : Tm) (bs : List BP) (f : Int → T) : Prop where
  rt : t.Right
  ru : u.Right
  sol : IsSol t.tree u.tree f
  right : ∀ x, f x = .v x ∨ (f x).Right
  rise : (bs.map (·.1)).Pairwise (· < ·)
  are : ∀ p ∈ bs, p.2.1 = (f p.1).tm ∧ f p.1 ≠ .v p.1
  all : ∀ x, f x ≠ .v x → ∃ p ∈ bs, p.1 = x
end Go.Proofs.Ytmgephleogiaoaa
namespace Go.Proofs.Ytmgephleogiaoaa
set_option linter.unusedVariables false
def bdT (bs : List BP) : Int → T := fun y => match bdOf bs y with | some p => p.1.tree | none => .v y
end Go.Proofs.Ytmgephleogiaoaa
namespace Go.Proofs.Ytmgephleogiaoaa
open Go.RowKit Go.Maps
set_option linter.unusedVariables false
set_option linter.unusedSimpArgs false
section
variable {w : World} {t u x : Tm} {a b : Option Addr} {c d : Nat}
end
end Go.Proofs.Ytmgephleogiaoaa
namespace Go.Proofs.Ytmgephleogiaoaa
open Go.RowKit Go.Maps
set_option linter.unusedVariables false
set_option linter.unusedSimpArgs false
section
variable {w : World} {t u x : Tm} {a b : Option Addr} {c d : Nat}
end
end Go.Proofs.Ytmgephleogiaoaa
namespace Go.Proofs.Ytmgephleogiaoaa
open Go.RowKit Go.Maps
set_option linter.unusedVariables false
set_option linter.unusedSimpArgs false
def lb_ (n m : Nat) : Array Bool := ((List.range n).map fun i => m.testBit i).toArray
def ed_ (n : Nat) : Edge := { on := n, ground := .data }
def ec_ (n : Nat) : Edge := { on := n, ground := .chain }
def eg_ (n : Nat) : Edge := { on := n, ground := .guard }
def ep_ (n : Nat) : Edge := { on := n, ground := .phase }
section
variable {w w' V : World} {o : Obj} {b b' : Nat} {t : TypeId} {cs : Array Value} {X : Nat → Prop}
theorem ba_ (hw : w' = w.alloc o) (h : Blk w b t cs) : Blk w' b t cs := by rw [hw]; exact h.alloc o
theorem ka_ (hw : w' = w.alloc o) (h : Keep X V w) : Keep X V w' := by rw [hw]; exact h.alloc o
theorem nb_ (hb : b' = w.heap.size) (h : Blk w b t cs) : b ≠ b' := by rw [hb]; exact Nat.ne_of_lt h.lt
theorem lk_ (hb : b = w.heap.size) (h : Keep X V w) : V.heap.size ≤ b := by rw [hb]; exact h.size
theorem kx_ (hk : Keep (fun g => g ≠ b) w w') (h : Keep X V w) (hX : ¬ X b) : Keep X V w' := h.trans (hk.less fun g hg e => hX (e ▸ hg))
theorem bx_ (hk : Keep (fun g => g ≠ b') w w') (h : Blk w b t cs) (hn : b ≠ b') : Blk w' b t cs := h.keep hk hn
end
section
variable {o : Oper} {a : Act} {w : World} {t u f : Nat} {v v0 v1 v2 c0 c1 c2 c3 : Value} {b : Nat} {tys : Array TypeId}
theorem ym_ (ho : o.op = .move (.tmp t)) (h : a.tmps[t]? = some v) : (execOp a.eval o).run Try.prog w = .ok (.value v) w := by
  unfold execOp; simp only [ho]; go_simp
theorem ya_ (ho : o.op = .assign (.tmp t)) (h : a.tmps[t]? = some v) : (execOp a.eval o).run Try.prog w = .ok (.value v) w := by
  unfold execOp; simp only [ho]; go_simp
theorem ye20_ (ho : o.op = .extract (.tmp t) 0) (h : a.tmps[t]? = some (.tuple #[v0, v1])) : (execOp a.eval o).run Try.prog w = .ok (.value v0) w := by
  unfold execOp; simp only [ho]; go_simp
theorem ye21_ (ho : o.op = .extract (.tmp t) 1) (h : a.tmps[t]? = some (.tuple #[v0, v1])) : (execOp a.eval o).run Try.prog w = .ok (.value v1) w := by
  unfold execOp; simp only [ho]; go_simp
theorem ye30_ (ho : o.op = .extract (.tmp t) 0) (h : a.tmps[t]? = some (.tuple #[v0, v1, v2])) : (execOp a.eval o).run Try.prog w = .ok (.value v0) w := by
  unfold execOp; simp only [ho]; go_simp
theorem ye31_ (ho : o.op = .extract (.tmp t) 1) (h : a.tmps[t]? = some (.tuple #[v0, v1, v2])) : (execOp a.eval o).run Try.prog w = .ok (.value v1) w := by
  unfold execOp; simp only [ho]; go_simp
theorem ye32_ (ho : o.op = .extract (.tmp t) 2) (h : a.tmps[t]? = some (.tuple #[v0, v1, v2])) : (execOp a.eval o).run Try.prog w = .ok (.value v2) w := by
  unfold execOp; simp only [ho]; go_simp
theorem yc1_ (he : Enters Try.prog f) (ho : o.op = .call { callee := .value (.func f), args := #[.tmp t], argTypes := tys }) (h : a.tmps[t]? = some v) : (execOp a.eval o).run Try.prog w = .ok (.enter f #[v]) w := by
  unfold execOp; simp only [ho]; go_simp; exact he _ _
theorem yc2_ (he : Enters Try.prog f) (ho : o.op = .call { callee := .value (.func f), args := #[.tmp t, .tmp u], argTypes := tys }) (h : a.tmps[t]? = some v0) (h1 : a.tmps[u]? = some v1) : (execOp a.eval o).run Try.prog w = .ok (.enter f #[v0, v1]) w := by
  unfold execOp; simp only [ho]; go_simp; exact he _ _
def Ag_ (D : List Nat) (a a' : Act) : Prop := ∀ k, k ∉ D → a'.tmps[k]? = a.tmps[k]?
theorem Ag_.refl (a : Act) : Ag_ [] a a := fun _ _ => rfl
theorem Ag_.put {D : List Nat} {a a1 a' : Act} {d : Nat} (h : Ag_ D a a1) (e : a' = a1.put (some d) v) : Ag_ (d :: D) a a' := fun k hk => by
  have h1 : d ≠ k := fun he => hk (he ▸ List.mem_cons_self)
  subst e
  show (a1.tmps.setIfInBounds d v)[k]? = _
  rw [Array.getElem?_setIfInBounds_ne h1]
  exact h k fun hm => hk (List.mem_cons_of_mem _ hm)
theorem Ag_.of {D : List Nat} {a a' : Act} {k : Nat} (E : Ag_ D a a') (h : a.tmps[k]? = some v) (hk : k ∉ D := by decide) : a'.tmps[k]? = some v := (E k hk).trans h
end
structure FE_ (n : Nat) (D : List Nat) (a0 a : Act) : Prop where
  r : FrS n a
  e : Ag_ D a0 a
theorem FE_.of {n k : Nat} {D : List Nat} {a0 a : Act} {v : Value} (F : FE_ n D a0 a) (h : a0.tmps[k]? = some v) (hk : k ∉ D := by decide) : a.tmps[k]? = some v := F.e.of h hk
theorem pt_ {n d : Nat} {D : List Nat} {a0 a a' : Act} {v : Value} (F : FE_ n D a0 a) (e : a' = a.put (some d) v) (hd : d < n := by decide) : a'.tmps[d]? = some v := F.r.at_ e hd
theorem pu_ {n d : Nat} {D : List Nat} {a0 a a' : Act} {v : Value} (F : FE_ n D a0 a) (e : a' = a.put (some d) v) : FE_ n (d :: D) a0 a' := ⟨F.r.put e, F.e.put e⟩
theorem dt_ {P : Program} {ops : Array Oper} {Q : Exit → Act → World → Prop} {S : World → Prop} {i d : Nat} {oi : Oper} {v : Value} {fuel : Nat} {listed l' : Array Bool} {a : Act} {w : World}
    (hi : ops[i]? = some oi) (hd : oi.dst = some d) (hs : Region.noSelect ops = true) (hw : Region.wanted oi (yielded ops a.tmps) = true) (hS : S w)
    (hy : ∀ w, S w → (execOp a.eval oi).run P w = .ok (.value v) w)
    (h : ∀ a', a' = a.put (some d) v → wpAnyH P .any ops (NoPanic Q) S fuel l' a' w)
    (hf : Region.free .any ops listed i = true := by kernel_rfl) (hr : (Region.ready .any ops listed).contains i = true := by kernel_rfl) (hl : listed.setIfInBounds i true = l' := by kernel_rfl) : wpAnyH P .any ops (NoPanic Q) S (fuel + 1) listed a w :=
  dr_take hi hd hs hf hr hl hw hS hy h
theorem sv_ {P : Program} {ops : Array Oper} {Q : Exit → Act → World → Prop} {i d : Nat} {oi : Oper} {v : Value} {rest : List Nat} {a : Act} {w w' : World} (hi : ops[i]? = some oi) (hy : (execOp a.eval oi).run P w = .ok (.value v) w') (h : ∀ a', a' = a.put (some d) v → wpOps P ops Q rest a' w') (hd : oi.dst = some d := by rfl) (hw : Region.wanted oi (yielded ops a.tmps) = true := by exact wanted_free rfl) : wpOps P ops Q (i :: rest) a w := st_val hi hd hw hy h
theorem js_ {P : Program} {x y : Code} {Q : Exit → Act → World → Prop} {a : Act} {w : World} (F : Act → World → Prop) (hx : x.wp P (Exit.then F Q) a w) (hy : ∀ a w, F a w → y.wp P Q a w) : (Code.seq x y).wp P Q a w :=
  wp_seq (Code.wp_mono (fun e a w h => by cases e <;> first | exact hy _ _ h | exact h) hx)
theorem so_ {a a' : Act} {d k : Nat} {v u : Value} (he : a' = a.put (some d) v) (hk : a.tmps[k]? = some u) (hne : d ≠ k := by decide) : a'.tmps[k]? = some u := slot_on he hk hne
theorem infoT' : ∃ i z, Try.prog.info? 24 = some i ∧ i.zero = some z ∧ i.size = 4 ∧ i.bytes = 56 ∧ z.cells.size = 4 := by
  have h1 : ((Try.prog.info? 24).map fun i => (i.size, i.bytes, (i.zero.map fun z => z.cells.size))) = some (4, 56, some 4) := by kernel_rfl
  obtain ⟨i, hi, he⟩ := Option.map_eq_some_iff.1 h1
  obtain ⟨e1, e2⟩ := Prod.mk.inj he
  obtain ⟨e2, e3⟩ := Prod.mk.inj e2
  obtain ⟨z, hz, hz2⟩ := Option.map_eq_some_iff.1 e3
  exact ⟨i, z, hi, hz, e1, e2, hz2⟩
theorem load_tm {w : World} {b : Nat} {c0 c1 c2 c3 : Value} (hb : Blk w b 24 #[c0, c1, c2, c3]) : (loadVar 24 ⟨b, 0, none⟩).run Try.prog w = .ok (.agg #[c0, c1, c2, c3]) w := by
  obtain ⟨i, z, h1, _, h3, _⟩ := infoT'
  exact run_loadVar_row w b 24 24 #[c0, c1, c2, c3] (0, 0) _ hb Try.underlying24 rfl (by rw [h1]; simp [h3])
theorem yl4_ {o : Oper} {a : Act} {w : World} {t b : Nat} {c0 c1 c2 c3 : Value} (ho : o.op = .load 24 (.tmp t)) (h : a.tmps[t]? = some (.pointer (some ⟨b, 0, none⟩))) (hb : Blk w b 24 #[c0, c1, c2, c3]) : (execOp a.eval o).run Try.prog w = .ok (.value (.agg #[c0, c1, c2, c3])) w := by
  have z0 : w.cell? ⟨b, 0, none⟩ = some c0 := hb.cell 0
  have z1 : w.cell? ⟨b, 1, none⟩ = some c1 := hb.cell 1
  have z2 : w.cell? ⟨b, 2, none⟩ = some c2 := hb.cell 2
  have z3 : w.cell? ⟨b, 3, none⟩ = some c3 := hb.cell 3
  unfold execOp
  simp only [ho]
  go_simp
section
variable {o : Oper} {a : Act} {w : World} {t b : Nat} {c0 c1 c2 c3 : Value}
theorem yf0_ (ho : o.op = .fieldAddr 24 (.tmp t) 0) (h : a.tmps[t]? = some (.pointer (some ⟨b, 0, none⟩))) : (execOp a.eval o).run Try.prog w = .ok (.value (.pointer (some ⟨b, 0, none⟩))) w := by unfold execOp; simp only [ho]; go_simp
theorem yf1_ (ho : o.op = .fieldAddr 24 (.tmp t) 1) (h : a.tmps[t]? = some (.pointer (some ⟨b, 0, none⟩))) : (execOp a.eval o).run Try.prog w = .ok (.value (.pointer (some ⟨b, 1, none⟩))) w := by unfold execOp; simp only [ho]; go_simp
theorem yf2_ (ho : o.op = .fieldAddr 24 (.tmp t) 2) (h : a.tmps[t]? = some (.pointer (some ⟨b, 0, none⟩))) : (execOp a.eval o).run Try.prog w = .ok (.value (.pointer (some ⟨b, 2, none⟩))) w := by unfold execOp; simp only [ho]; go_simp
theorem yf3_ (ho : o.op = .fieldAddr 24 (.tmp t) 3) (h : a.tmps[t]? = some (.pointer (some ⟨b, 0, none⟩))) : (execOp a.eval o).run Try.prog w = .ok (.value (.pointer (some ⟨b, 3, none⟩))) w := by unfold execOp; simp only [ho]; go_simp
theorem yk0_ (ho : o.op = .load 3 (.tmp t)) (h : a.tmps[t]? = some (.pointer (some ⟨b, 0, none⟩))) (hb : Blk w b 24 #[c0, c1, c2, c3]) : (execOp a.eval o).run Try.prog w = .ok (.value c0) w := by
  have z0 : w.cell? ⟨b, 0, none⟩ = some c0 := hb.cell 0
  unfold execOp; simp only [ho]; go_simp
theorem yk1_ (ho : o.op = .load 9 (.tmp t)) (h : a.tmps[t]? = some (.pointer (some ⟨b, 1, none⟩))) (hb : Blk w b 24 #[c0, c1, c2, c3]) : (execOp a.eval o).run Try.prog w = .ok (.value c1) w := by
  have z0 : w.cell? ⟨b, 1, none⟩ = some c1 := hb.cell 1
  unfold execOp; simp only [ho]; go_simp
theorem yk2_ (ho : o.op = .load 2 (.tmp t)) (h : a.tmps[t]? = some (.pointer (some ⟨b, 2, none⟩))) (hb : Blk w b 24 #[c0, c1, c2, c3]) : (execOp a.eval o).run Try.prog w = .ok (.value c2) w := by
  have z0 : w.cell? ⟨b, 2, none⟩ = some c2 := hb.cell 2
  unfold execOp; simp only [ho]; go_simp
theorem yk3_ (ho : o.op = .load 22 (.tmp t)) (h : a.tmps[t]? = some (.pointer (some ⟨b, 3, none⟩))) (hb : Blk w b 24 #[c0, c1, c2, c3]) : (execOp a.eval o).run Try.prog w = .ok (.value c3) w := by
  have z0 : w.cell? ⟨b, 3, none⟩ = some c3 := hb.cell 3
  unfold execOp; simp only [ho]; go_simp
theorem ys4_ {u n c : Nat} {x y : Int} {s : ByteArray} {p : Option Addr} (ho : o.op = .store 24 (.tmp t) (.tmp u)) (h : a.tmps[t]? = some (.pointer (some ⟨b, 0, none⟩))) (hu : a.tmps[u]? = some (.agg #[.int .i64 x, .string s, .int .i64 y, .slice p n c])) (hb : Blk w b 24 #[c0, c1, c2, c3]) :
    ∃ w', (execOp a.eval o).run Try.prog w = .ok .skip w' ∧ Keep (fun g => g ≠ b) w w' ∧ Blk w' b 24 #[.int .i64 x, .string s, .int .i64 y, .slice p n c] := by
  have z0 : w.cell? ⟨b, 0, none⟩ = some c0 := hb.cell 0
  have z1 : w.cell? ⟨b, 1, none⟩ = some c1 := hb.cell 1
  have z2 : w.cell? ⟨b, 2, none⟩ = some c2 := hb.cell 2
  have z3 : w.cell? ⟨b, 3, none⟩ = some c3 := hb.cell 3
  have f0 := hb.frozen 0; have f1 := hb.frozen 1; have f2 := hb.frozen 2; have f3 := hb.frozen 3
  refine ⟨(((w.setCell ⟨b, 0, none⟩ (.int .i64 x)).setCell ⟨b, 1, none⟩ (.string s)).setCell ⟨b, 2, none⟩ (.int .i64 y)).setCell ⟨b, 3, none⟩ (.slice p n c), ?_, ((((Keep.refl _ _).setCell (fun h => h rfl) _).setCell (fun h => h rfl) _).setCell (fun h => h rfl) _).setCell (fun h => h rfl) _, (((hb.set_ 0 _).set_ 1 _).set_ 2 _).set_ 3 _⟩
  unfold execOp; simp only [ho]; go_simp
end
section
variable {fn : Func} {R : Ending → World → Prop} {a : Act} {w : World} {t u n b : Nat} {c0 c1 c2 c3 v : Value}
theorem ret_cell (hr : fn.results = #[.cell t 24]) (hF : FrS n a) (h : a.tmps[t]? = some (.pointer (some ⟨b, 0, none⟩))) (hb : Blk w b 24 #[c0, c1, c2, c3]) (hR : R (.returned (.agg #[c0, c1, c2, c3])) w) : bodyPost Try.prog fn R .ret a w := by
  obtain ⟨i, z, h1, _, h3, _⟩ := infoT'
  refine ⟨hF.defers, _, results_cell_row hr a.tmps w b 24 #[c0, c1, c2, c3] (0, 0) _ (by rw [Array.getD_eq_getD_getElem?, h]; rfl) hb Try.underlying24 rfl (by rw [h1]; simp [h3]), hR⟩
end
structure TRow (B : Nat) (w : World) (v : Value) (ps : List TP) : Prop where
  row : w.ownsRow B 24 4 v ps.length (ps.flatMap TP.cells)
  fr : ∀ p ∈ ps, Fr 0 (fun k => v.ownBlock = some k) w B w.heap.size p.1 p.2.1 p.2.2
  le : B ≤ w.heap.size
section
variable {B : Nat} {w w1 w2 : World} {v : Value} {ps : List TP} {p : TP} {t : Tm} {a : Option Addr} {c : Nat}
end
end Go.Proofs.Ytmgephleogiaoaa
namespace Go.Proofs.Ytmgephleogiaoaa
open Go.RowKit Go.Maps
set_option linter.unusedVariables false
set_option linter.unusedSimpArgs false
def Sl4 (R : Nat → Prop) (w : World) : Nat → Option Addr → Nat → Prop
  | 0, _, n => n = 0
  | d + 1, a, n => n = 0 ∨ ∃ g cs, a = some ⟨g, 0, none⟩ ∧ R g ∧ Blk w g 24 cs ∧ n * 4 ≤ cs.size ∧ n ≤ maxLen ∧ ∀ j, j < n → ∃ (k i : Int) (nm : ByteArray) (a' : Option Addr) (n' c' : Nat), cs[j * 4]? = some (.int .i64 k) ∧ cs[j * 4 + 1]? = some (.string nm) ∧ cs[j * 4 + 2]? = some (.int .i64 i) ∧ cs[j * 4 + 3]? = some (.slice a' n' c') ∧ Sl4 R w d a' n'
structure Spo (R : Nat → Prop) (w w' : World) : Prop where
  kp : Keep (fun g => ¬ R g) w w'
  sp : ∀ g cs, R g → Blk w g 24 cs → ∃ cs', Blk w' g 24 cs' ∧ cs'.size = cs.size ∧ ∀ j, j * 4 + 3 < cs.size → ((cs'[j * 4]? = cs[j * 4]? ∧ cs'[j * 4 + 1]? = cs[j * 4 + 1]? ∧ cs'[j * 4 + 2]? = cs[j * 4 + 2]? ∧ cs'[j * 4 + 3]? = cs[j * 4 + 3]?) ∨ (cs'[j * 4]? = some (.int .i64 2) ∧ cs'[j * 4 + 1]? = some (.string ⟨#[]⟩) ∧ cs'[j * 4 + 2]? = some (.int .i64 77) ∧ cs'[j * 4 + 3]? = some (.slice none 0 0)))
section
variable {R R' : Nat → Prop} {w w' w'' : World}
end
end Go.Proofs.Ytmgephleogiaoaa
namespace Go.Proofs.Ytmgephleogiaoaa
open Go.RowKit Go.Maps
set_option linter.unusedVariables false
set_option linter.unusedSimpArgs false
structure VRow (B : Nat) (W w : World) (u v : Value) (l : List Int) : Prop where
  row : w.ownsRow B 2 1 v l.length (l.map (Value.int .i64))
  kp : Keep (fun g => g < W.heap.size ∧ u.ownBlock ≠ some g) W w
  ow : ∀ g, v.ownBlock = some g → u.ownBlock = some g ∨ W.heap.size ≤ g
section
variable {B : Nat} {W w w' : World} {u v v' : Value} {l l' : List Int}
end
end Go.Proofs.Ytmgephleogiaoaa
namespace Go.Proofs.Ytmgephleogiaoaa
open Go.RowKit Go.Maps
set_option linter.unusedVariables false
set_option linter.unusedSimpArgs false
def bareV (t : Tm) : Tm := if t.k ≤ 2 then .node t.k [] t.i [] else .node t.k t.nm 0 []
mutual
def mapT (f : Tm → Tm) : Tm → Tm
  | .node k nm i args => if k = 4 then .node 4 nm 0 (mapTL f args) else f (.node k nm i args)
def mapTL (f : Tm → Tm) : List Tm → List Tm
  | [] => []
  | t :: ts => mapT f t :: mapTL f ts
end
def cpL (t : Tm) : Tm := if t.k = 1 ∧ t.i = 0 then .node 0 [] 0 [] else bareV t
def o85_0_0 : Oper := ⟨some 1, Op.box 24 (Operand.tmp 0), 0, "ref.go:159", #[], none⟩
def o85_0_1 : Oper := ⟨some 2, Op.alloc 24, 0, "ref.go:159", #[], none⟩
def O85_0 : Array Oper := List.toArray (o85_0_0 :: o85_0_1 :: [])
def c85_1 : Code := Code.region 0 O85_0 false
def o85_1_0 : Oper := ⟨some 3, Op.fieldAddr 24 (Operand.tmp 1) 0, 0, "ref.go:160", #[], none⟩
def o85_1_1 : Oper := ⟨some 4, Op.load 3 (Operand.tmp 3), 3, "ref.go:160", #[ed_ 0], none⟩
def o85_1_2 : Oper := ⟨some 5, Op.binOp Go.BinOp.leq 3 (Operand.tmp 4) (Operand.const (Value.int IntKind.i64 2)) 3, 4, "ref.go:160", #[ed_ 1], none⟩
def O85_1 : Array Oper := List.toArray (o85_1_0 :: o85_1_1 :: o85_1_2 :: [])
def c85_4 : Code := Code.region 1 O85_1 false
def o85_2_0 : Oper := ⟨some 6, Op.fieldAddr 24 (Operand.tmp 1) 0, 0, "ref.go:161", #[], none⟩
def o85_2_1 : Oper := ⟨some 7, Op.load 3 (Operand.tmp 6), 3, "ref.go:161", #[ed_ 0], none⟩
def o85_2_2 : Oper := ⟨some 8, Op.fieldAddr 24 (Operand.tmp 1) 2, 0, "ref.go:161", #[], none⟩
def o85_2_3 : Oper := ⟨some 9, Op.load 2 (Operand.tmp 8), 2, "ref.go:161", #[ed_ 2], none⟩
def o85_2_4 : Oper := ⟨some 10, Op.build 24 #[(0, Operand.tmp 7), (2, Operand.tmp 9)], 24, "ref.go:161", #[ed_ 1, ed_ 3], none⟩
def o85_2_5 : Oper := ⟨none, Op.store 24 (Operand.tmp 2) (Operand.tmp 10), 0, "ref.go:161", #[ed_ 4, ep_ 0, ep_ 1, ep_ 2, ep_ 3, ep_ 4], none⟩
def O85_2 : Array Oper := List.toArray (o85_2_0 :: o85_2_1 :: o85_2_2 :: o85_2_3 :: o85_2_4 :: o85_2_5 :: [])
def c85_7 : Code := Code.region 2 O85_2 false
def c85_6 : Code := Code.seq c85_7 Code.ret
def c85_5 : Code := Code.cond (Operand.tmp 5) c85_6 Code.skip
def c85_3 : Code := Code.seq c85_4 c85_5
def o85_3_0 : Oper := ⟨some 11, Op.fieldAddr 24 (Operand.tmp 1) 0, 0, "ref.go:163", #[], none⟩
def o85_3_1 : Oper := ⟨some 12, Op.load 3 (Operand.tmp 11), 3, "ref.go:163", #[ed_ 0], none⟩
def o85_3_2 : Oper := ⟨some 13, Op.fieldAddr 24 (Operand.tmp 1) 1, 0, "ref.go:163", #[], none⟩
def o85_3_3 : Oper := ⟨some 14, Op.load 9 (Operand.tmp 13), 9, "ref.go:163", #[ed_ 2], none⟩
def o85_3_4 : Oper := ⟨some 15, Op.build 24 #[(0, Operand.tmp 12), (1, Operand.tmp 14)], 24, "ref.go:163", #[ed_ 1, ed_ 3], none⟩
def o85_3_5 : Oper := ⟨none, Op.store 24 (Operand.tmp 2) (Operand.tmp 15), 0, "ref.go:163", #[ed_ 4, ep_ 0, ep_ 1, ep_ 2, ep_ 3, ep_ 4], none⟩
def O85_3 : Array Oper := List.toArray (o85_3_0 :: o85_3_1 :: o85_3_2 :: o85_3_3 :: o85_3_4 :: o85_3_5 :: [])
def c85_11 : Code := Code.region 3 O85_3 false
def c85_10 : Code := Code.seq c85_11 Code.ret
def c85_2 : Code := Code.seq c85_3 c85_10
def c85_0 : Code := Code.seq c85_1 c85_2
section
variable {W w : World} {t : Tm} {a : Option Addr} {c : Nat}
end
def o68_0_0 : Oper := ⟨some 3, Op.box 24 (Operand.tmp 0), 0, "ref.go:144", #[], none⟩
def o68_0_1 : Oper := ⟨some 5, Op.box 24 (Operand.tmp 2), 0, "ref.go:144", #[], none⟩
def o68_0_2 : Oper := ⟨some 6, Op.alloc 24, 0, "ref.go:144", #[], none⟩
def O68_0 : Array Oper := List.toArray (o68_0_0 :: o68_0_1 :: o68_0_2 :: [])
def c68_1 : Code := Code.region 0 O68_0 false
def o68_1_0 : Oper := ⟨some 9, Op.fieldAddr 24 (Operand.tmp 3) 0, 0, "ref.go:145", #[], none⟩
def o68_1_1 : Oper := ⟨some 10, Op.load 3 (Operand.tmp 9), 3, "ref.go:145", #[ed_ 0], none⟩
def o68_1_2 : Oper := ⟨some 11, Op.binOp Go.BinOp.eql 3 (Operand.tmp 10) (Operand.const (Value.int IntKind.i64 1)) 3, 4, "ref.go:145", #[ed_ 1], none⟩
def o68_1_3 : Oper := ⟨some 12, Op.move (Operand.tmp 11), 4, "ref.go:145", #[ed_ 2], none⟩
def o68_1_4 : Oper := ⟨some 13, Op.fieldAddr 24 (Operand.tmp 3) 2, 0, "ref.go:145", #[eg_ 3], some (3, true)⟩
def o68_1_5 : Oper := ⟨some 14, Op.load 2 (Operand.tmp 13), 2, "ref.go:145", #[ed_ 4, eg_ 3], some (3, true)⟩
def o68_1_6 : Oper := ⟨some 15, Op.move (Operand.tmp 1), 2, "ref.go:145", #[eg_ 3], some (3, true)⟩
def o68_1_7 : Oper := ⟨some 16, Op.binOp Go.BinOp.eql 2 (Operand.tmp 14) (Operand.tmp 15) 2, 4, "ref.go:145", #[ed_ 5, ed_ 6, eg_ 3], some (3, true)⟩
def o68_1_8 : Oper := ⟨some 17, Op.pick (Operand.tmp 12) (Operand.tmp 16) (Operand.const (Value.bool false)), 4, "ref.go:145", #[ed_ 3, ed_ 7], none⟩
def O68_1 : Array Oper := List.toArray (o68_1_0 :: o68_1_1 :: o68_1_2 :: o68_1_3 :: o68_1_4 :: o68_1_5 :: o68_1_6 :: o68_1_7 :: o68_1_8 :: [])
def c68_4 : Code := Code.region 1 O68_1 false
def o68_2_0 : Oper := ⟨some 18, Op.load 24 (Operand.tmp 5), 24, "ref.go:146", #[], none⟩
def o68_2_1 : Oper := ⟨none, Op.store 24 (Operand.tmp 6) (Operand.tmp 18), 0, "ref.go:146", #[ed_ 0, ep_ 0], none⟩
def O68_2 : Array Oper := List.toArray (o68_2_0 :: o68_2_1 :: [])
def c68_7 : Code := Code.region 2 O68_2 false
def c68_6 : Code := Code.seq c68_7 Code.ret
def c68_5 : Code := Code.cond (Operand.tmp 17) c68_6 Code.skip
def c68_3 : Code := Code.seq c68_4 c68_5
def o68_3_0 : Oper := ⟨some 19, Op.fieldAddr 24 (Operand.tmp 3) 0, 0, "ref.go:148", #[], none⟩
def o68_3_1 : Oper := ⟨some 20, Op.load 3 (Operand.tmp 19), 3, "ref.go:148", #[ed_ 0], none⟩
def o68_3_2 : Oper := ⟨some 21, Op.binOp Go.BinOp.neq 3 (Operand.tmp 20) (Operand.const (Value.int IntKind.i64 4)) 3, 4, "ref.go:148", #[ed_ 1], none⟩
def O68_3 : Array Oper := List.toArray (o68_3_0 :: o68_3_1 :: o68_3_2 :: [])
def c68_12 : Code := Code.region 3 O68_3 false
def o68_4_0 : Oper := ⟨some 22, Op.load 24 (Operand.tmp 3), 24, "ref.go:149", #[], none⟩
def o68_4_2 : Oper := ⟨none, Op.store 24 (Operand.tmp 6) (Operand.tmp 23), 0, "ref.go:149", #[ed_ 1, ec_ 1, ep_ 0, ep_ 1], none⟩
def o68_5_0 : Oper := ⟨some 24, Op.fieldAddr 24 (Operand.tmp 3) 1, 0, "ref.go:151", #[], none⟩
def o68_5_1 : Oper := ⟨some 25, Op.load 9 (Operand.tmp 24), 9, "ref.go:151", #[ed_ 0], none⟩
def o68_5_2 : Oper := ⟨some 26, Op.build 24 #[(0, Operand.const (Value.int IntKind.i64 4)), (1, Operand.tmp 25)], 24, "ref.go:151", #[ed_ 1], none⟩
def o68_5_3 : Oper := ⟨some 7, Op.alloc 24, 0, "ref.go:151", #[], none⟩
def o68_5_4 : Oper := ⟨none, Op.store 24 (Operand.tmp 7) (Operand.tmp 26), 0, "ref.go:151", #[ed_ 3, ed_ 2, ep_ 0, ep_ 1, ep_ 2, ep_ 3], none⟩
def O68_5 : Array Oper := List.toArray (o68_5_0 :: o68_5_1 :: o68_5_2 :: o68_5_3 :: o68_5_4 :: [])
def c68_19 : Code := Code.region 5 O68_5 false
def o68_6_0 : Oper := ⟨some 8, Op.assign (Operand.const (Value.int IntKind.i64 0)), 3, "ref.go:152", #[], none⟩
def O68_6 : Array Oper := List.toArray (o68_6_0 :: [])
def c68_22 : Code := Code.region 6 O68_6 false
def o68_7_0 : Oper := ⟨some 27, Op.move (Operand.tmp 8), 3, "ref.go:152", #[], none⟩
def o68_7_1 : Oper := ⟨some 28, Op.fieldAddr 24 (Operand.tmp 3) 3, 0, "ref.go:152", #[], none⟩
def o68_7_2 : Oper := ⟨some 29, Op.load 22 (Operand.tmp 28), 22, "ref.go:152", #[ed_ 1], none⟩
def o68_7_3 : Oper := ⟨some 30, Op.call { callee := Callee.builtin Go.Builtin.len, args := #[Operand.tmp 29], argTypes := #[22] }, 3, "ref.go:152", #[ed_ 2], none⟩
def o68_7_4 : Oper := ⟨some 31, Op.binOp Go.BinOp.lss 3 (Operand.tmp 27) (Operand.tmp 30) 3, 4, "ref.go:152", #[ed_ 0, ed_ 3], none⟩
def O68_7 : Array Oper := List.toArray (o68_7_0 :: o68_7_1 :: o68_7_2 :: o68_7_3 :: o68_7_4 :: [])
def c68_27 : Code := Code.region 7 O68_7 false
def c68_30 : Code := Code.exit 0
def c68_28 : Code := Code.cond (Operand.tmp 31) Code.skip c68_30
def c68_26 : Code := Code.seq c68_27 c68_28
def o68_9_0 : Oper := ⟨some 34, Op.fieldAddr 24 (Operand.tmp 7) 3, 0, "ref.go:153", #[], none⟩
def o68_9_1 : Oper := ⟨some 35, Op.load 22 (Operand.tmp 34), 22, "ref.go:153", #[ed_ 0], none⟩
def o68_9_2 : Oper := ⟨some 36, Op.fieldAddr 24 (Operand.tmp 3) 3, 0, "ref.go:153", #[], none⟩
def o68_9_3 : Oper := ⟨some 37, Op.load 22 (Operand.tmp 36), 22, "ref.go:153", #[ed_ 2], none⟩
def o68_9_4 : Oper := ⟨some 38, Op.move (Operand.tmp 8), 3, "ref.go:153", #[], none⟩
def o68_9_5 : Oper := ⟨some 39, Op.indexAddr 22 (Operand.tmp 37) (Operand.tmp 38), 0, "ref.go:153", #[ed_ 3, ed_ 4], none⟩
def o68_9_6 : Oper := ⟨some 40, Op.load 24 (Operand.tmp 39), 24, "ref.go:153", #[ed_ 5], none⟩
def o68_9_7 : Oper := ⟨some 41, Op.move (Operand.tmp 1), 2, "ref.go:153", #[], none⟩
def o68_9_8 : Oper := ⟨some 42, Op.load 24 (Operand.tmp 5), 24, "ref.go:153", #[], none⟩
def o68_9_10 : Oper := ⟨some 44, Op.buildSlice 22 1 #[(0, Operand.tmp 43)], 22, "ref.go:153", #[ed_ 9], none⟩
def o68_9_11 : Oper := ⟨some 45, Op.call { callee := Callee.builtin Go.Builtin.append, args := #[Operand.tmp 35, Operand.tmp 44], argTypes := #[22, 22] }, 22, "ref.go:153", #[ed_ 1, ed_ 10, ec_ 9], none⟩
def o68_9_12 : Oper := ⟨some 46, Op.fieldAddr 24 (Operand.tmp 7) 3, 0, "ref.go:153", #[ep_ 0, ep_ 1, ep_ 2, ep_ 3, ep_ 4, ep_ 5, ep_ 6, ep_ 7, ep_ 8, ep_ 9, ep_ 10, ep_ 11], none⟩
def o68_9_13 : Oper := ⟨none, Op.store 22 (Operand.tmp 46) (Operand.tmp 45), 0, "ref.go:153", #[ed_ 12, ed_ 11, ec_ 11, ep_ 0, ep_ 1, ep_ 2, ep_ 3, ep_ 4, ep_ 5, ep_ 6, ep_ 7, ep_ 8, ep_ 9, ep_ 10, ep_ 11], none⟩
def o68_8_0 : Oper := ⟨some 32, Op.move (Operand.tmp 8), 3, "ref.go:152", #[], none⟩
def o68_8_1 : Oper := ⟨some 33, Op.binOp Go.BinOp.add 3 (Operand.tmp 32) (Operand.const (Value.int IntKind.i64 1)) 3, 3, "ref.go:152", #[ed_ 0], none⟩
def o68_8_2 : Oper := ⟨some 8, Op.assign (Operand.tmp 33), 3, "ref.go:152", #[ed_ 1, ep_ 0, ep_ 1], none⟩
def O68_8 : Array Oper := List.toArray (o68_8_0 :: o68_8_1 :: o68_8_2 :: [])
def c68_34 : Code := Code.region 8 O68_8 false
def o68_10_0 : Oper := ⟨some 47, Op.load 24 (Operand.tmp 7), 24, "ref.go:155", #[], none⟩
def o68_10_1 : Oper := ⟨none, Op.store 24 (Operand.tmp 6) (Operand.tmp 47), 0, "ref.go:155", #[ed_ 0, ep_ 0], none⟩
def O68_10 : Array Oper := List.toArray (o68_10_0 :: o68_10_1 :: [])
def c68_36 : Code := Code.region 10 O68_10 false
def c68_35 : Code := Code.seq c68_36 Code.ret
def o34_0_0 : Oper := ⟨some 1, Op.box 24 (Operand.tmp 0), 0, "ref.go:167", #[], none⟩
def o34_0_1 : Oper := ⟨some 2, Op.alloc 24, 0, "ref.go:167", #[], none⟩
def O34_0 : Array Oper := List.toArray (o34_0_0 :: o34_0_1 :: [])
def c34_1 : Code := Code.region 0 O34_0 false
def o34_1_0 : Oper := ⟨some 3, Op.load 24 (Operand.tmp 1), 24, "ref.go:167", #[], none⟩
def o34_1_1 : Oper := ⟨some 4, Op.build 24 #[], 24, "ref.go:167", #[], none⟩
def o34_1_3 : Oper := ⟨none, Op.store 24 (Operand.tmp 2) (Operand.tmp 5), 0, "ref.go:167", #[ed_ 2, ec_ 2, ep_ 0, ep_ 1, ep_ 2], none⟩
end Go.Proofs.Ytmgephleogiaoaa
namespace Go.Proofs.Ytmgephleogiaoaa
open Go.RowKit Go.Maps
set_option linter.unusedVariables false
set_option linter.unusedSimpArgs false
def o45_0_0 : Oper := ⟨some 1, Op.box 24 (Operand.tmp 0), 0, "law.go:394", #[], none⟩
def O45_0 : Array Oper := List.toArray (o45_0_0 :: [])
def c45_1 : Code := Code.region 0 O45_0 false
def o45_1_0 : Oper := ⟨some 3, Op.fieldAddr 24 (Operand.tmp 1) 3, 0, "law.go:395", #[], none⟩
def o45_1_1 : Oper := ⟨some 4, Op.load 22 (Operand.tmp 3), 22, "law.go:395", #[ed_ 0], none⟩
def o45_1_2 : Oper := ⟨some 5, Op.call { callee := Callee.builtin Go.Builtin.len, args := #[Operand.tmp 4], argTypes := #[22] }, 3, "law.go:395", #[ed_ 1], none⟩
def o45_1_3 : Oper := ⟨some 6, Op.move (Operand.const (Value.int IntKind.i64 0)), 3, "law.go:395", #[], none⟩
def O45_1 : Array Oper := List.toArray (o45_1_0 :: o45_1_1 :: o45_1_2 :: o45_1_3 :: [])
def c45_3 : Code := Code.region 1 O45_1 false
def o45_2_0 : Oper := ⟨some 7, Op.binOp Go.BinOp.lss 3 (Operand.tmp 6) (Operand.tmp 5) 3, 0, "law.go:395", #[], none⟩
def O45_2 : Array Oper := List.toArray (o45_2_0 :: [])
def c45_7 : Code := Code.region 2 O45_2 false
def c45_11 : Code := Code.exit 0
def c45_9 : Code := Code.cond (Operand.tmp 7) Code.skip c45_11
def o45_3_0 : Oper := ⟨some 8, Op.move (Operand.tmp 6), 3, "law.go:395", #[], none⟩
def o45_3_1 : Oper := ⟨some 2, Op.assign (Operand.tmp 8), 3, "law.go:395", #[ed_ 0, ep_ 0], none⟩
def O45_3 : Array Oper := List.toArray (o45_3_0 :: o45_3_1 :: [])
def c45_15 : Code := Code.region 3 O45_3 false
def o45_4_0 : Oper := ⟨some 9, Op.fieldAddr 24 (Operand.tmp 1) 3, 0, "law.go:396", #[], none⟩
def o45_4_1 : Oper := ⟨some 10, Op.load 22 (Operand.tmp 9), 22, "law.go:396", #[ed_ 0], none⟩
def o45_4_2 : Oper := ⟨some 11, Op.move (Operand.tmp 2), 3, "law.go:396", #[], none⟩
def o45_4_3 : Oper := ⟨some 12, Op.indexAddr 22 (Operand.tmp 10) (Operand.tmp 11), 0, "law.go:396", #[ed_ 1, ed_ 2], none⟩
def o45_4_4 : Oper := ⟨some 13, Op.load 24 (Operand.tmp 12), 24, "law.go:396", #[ed_ 3], none⟩
def o45_5_0 : Oper := ⟨some 15, Op.fieldAddr 24 (Operand.tmp 1) 3, 0, "law.go:397", #[], none⟩
def o45_5_1 : Oper := ⟨some 16, Op.load 22 (Operand.tmp 15), 22, "law.go:397", #[ed_ 0], none⟩
def o45_5_2 : Oper := ⟨some 17, Op.move (Operand.tmp 2), 3, "law.go:397", #[], none⟩
def o45_5_3 : Oper := ⟨some 18, Op.build 24 #[(0, Operand.const (Value.int IntKind.i64 2)), (2, Operand.const (Value.int IntKind.i64 77))], 24, "law.go:397", #[], none⟩
def o45_5_4 : Oper := ⟨some 19, Op.indexAddr 22 (Operand.tmp 16) (Operand.tmp 17), 0, "law.go:397", #[ed_ 1, ed_ 2, ep_ 0, ep_ 1, ep_ 2, ep_ 3], none⟩
def o45_5_5 : Oper := ⟨none, Op.store 24 (Operand.tmp 19) (Operand.tmp 18), 0, "law.go:397", #[ed_ 4, ed_ 3, ep_ 0, ep_ 1, ep_ 2, ep_ 3], none⟩
def O45_5 : Array Oper := List.toArray (o45_5_0 :: o45_5_1 :: o45_5_2 :: o45_5_3 :: o45_5_4 :: o45_5_5 :: [])
def c45_18 : Code := Code.region 5 O45_5 false
def o45_6_0 : Oper := ⟨some 20, Op.binOp Go.BinOp.add 3 (Operand.tmp 6) (Operand.const (Value.int IntKind.i64 1)) 3, 3, "law.go:395", #[], none⟩
def o45_6_1 : Oper := ⟨some 6, Op.move (Operand.tmp 20), 3, "law.go:395", #[ed_ 0], none⟩
def O45_6 : Array Oper := List.toArray (o45_6_0 :: o45_6_1 :: [])
def c45_19 : Code := Code.region 6 O45_6 false
end Go.Proofs.Ytmgephleogiaoaa
namespace Go.Proofs.Ytmgephleogiaoaa
open Go.RowKit Go.Maps
set_option linter.unusedVariables false
set_option linter.unusedSimpArgs false
def o33_0_0 : Oper := ⟨some 2, Op.assign (Operand.const (Value.bool false)), 4, "law.go:30", #[], none⟩
def O33_0 : Array Oper := List.toArray (o33_0_0 :: [])
def c33_1 : Code := Code.region 0 O33_0 false
def o33_1_0 : Oper := ⟨some 5, Op.move (Operand.tmp 0), 22, "law.go:31", #[], none⟩
def o33_1_1 : Oper := ⟨some 6, Op.call { callee := Callee.builtin Go.Builtin.len, args := #[Operand.tmp 5], argTypes := #[22] }, 3, "law.go:31", #[ed_ 0], none⟩
def o33_1_2 : Oper := ⟨some 7, Op.move (Operand.const (Value.int IntKind.i64 0)), 3, "law.go:31", #[], none⟩
def O33_1 : Array Oper := List.toArray (o33_1_0 :: o33_1_1 :: o33_1_2 :: [])
def c33_4 : Code := Code.region 1 O33_1 false
def o33_2_0 : Oper := ⟨some 8, Op.binOp Go.BinOp.lss 3 (Operand.tmp 7) (Operand.tmp 6) 3, 0, "law.go:31", #[], none⟩
def O33_2 : Array Oper := List.toArray (o33_2_0 :: [])
def c33_8 : Code := Code.region 2 O33_2 false
def c33_12 : Code := Code.exit 0
def c33_10 : Code := Code.cond (Operand.tmp 8) Code.skip c33_12
def o33_3_0 : Oper := ⟨some 9, Op.indexAddr 22 (Operand.tmp 5) (Operand.tmp 7), 0, "law.go:31", #[], none⟩
def o33_3_1 : Oper := ⟨some 10, Op.load 24 (Operand.tmp 9), 24, "law.go:31", #[ed_ 0], none⟩
def o33_3_2 : Oper := ⟨some 4, Op.alloc 24, 0, "law.go:31", #[], none⟩
def o33_3_3 : Oper := ⟨none, Op.store 24 (Operand.tmp 4) (Operand.tmp 10), 0, "law.go:31", #[ed_ 2, ed_ 1, ep_ 0, ep_ 1, ep_ 2], none⟩
def O33_3 : Array Oper := List.toArray (o33_3_0 :: o33_3_1 :: o33_3_2 :: o33_3_3 :: [])
def c33_16 : Code := Code.region 3 O33_3 false
def o33_4_0 : Oper := ⟨some 11, Op.load 24 (Operand.tmp 4), 24, "law.go:32", #[], none⟩
def o33_4_1 : Oper := ⟨some 12, Op.call { callee := Callee.value (Operand.func 28), args := #[Operand.tmp 11, Operand.const (Value.int IntKind.i64 100)], argTypes := #[24, 3] }, 3, "law.go:32", #[ed_ 0], none⟩
def o33_4_2 : Oper := ⟨some 13, Op.binOp Go.BinOp.gtr 3 (Operand.tmp 12) (Operand.const (Value.int IntKind.i64 100)) 3, 4, "law.go:32", #[ed_ 1], none⟩
def O33_4 : Array Oper := List.toArray (o33_4_0 :: o33_4_1 :: o33_4_2 :: [])
def c33_18 : Code := Code.region 4 O33_4 false
def o33_5_0 : Oper := ⟨some 2, Op.assign (Operand.const (Value.bool false)), 4, "law.go:33", #[], none⟩
def O33_5 : Array Oper := List.toArray (o33_5_0 :: [])
def c33_21 : Code := Code.region 5 O33_5 false
def c33_20 : Code := Code.seq c33_21 Code.ret
def c33_19 : Code := Code.cond (Operand.tmp 13) c33_20 Code.skip
def c33_17 : Code := Code.seq c33_18 c33_19
def c33_15 : Code := Code.seq c33_16 c33_17
def c33_14 : Code := Code.block 1 c33_15
def o33_6_0 : Oper := ⟨some 14, Op.binOp Go.BinOp.add 3 (Operand.tmp 7) (Operand.const (Value.int IntKind.i64 1)) 3, 3, "law.go:31", #[], none⟩
def o33_6_1 : Oper := ⟨some 7, Op.move (Operand.tmp 14), 3, "law.go:31", #[ed_ 0], none⟩
def O33_6 : Array Oper := List.toArray (o33_6_0 :: o33_6_1 :: [])
def c33_24 : Code := Code.region 6 O33_6 false
def c33_13 : Code := Code.seq c33_14 c33_24
def c33_9 : Code := Code.seq c33_10 c33_13
def c33_7 : Code := Code.seq c33_8 c33_9
def c33_6 : Code := Code.loop c33_7
def c33_5 : Code := Code.block 0 c33_6
def c33_3 : Code := Code.seq c33_4 c33_5
def o33_7_0 : Oper := ⟨some 2, Op.assign (Operand.const (Value.bool true)), 4, "law.go:36", #[], none⟩
def O33_7 : Array Oper := List.toArray (o33_7_0 :: [])
def c33_26 : Code := Code.region 7 O33_7 false
def c33_25 : Code := Code.seq c33_26 Code.ret
def c33_2 : Code := Code.seq c33_3 c33_25
def c33_0 : Code := Code.seq c33_1 c33_2
end Go.Proofs.Ytmgephleogiaoaa
namespace Go.Proofs.Ytmgephleogiaoaa
open Go.RowKit Go.Maps
set_option linter.unusedVariables false
set_option linter.unusedSimpArgs false
section
variable {w : World} {t u x : Tm} {a b : Option Addr} {c d : Nat}
def RowC (w : World) (g : Nat) (a : Option Addr) (ps : List TP) : Prop := ∀ (j : Nat) (p : TP), ps[j]? = some p → a = some ⟨g, 0, none⟩ ∧ ∀ (f : Nat) (v : Value), p.cells[f]? = some v → w.cell? ⟨g, j * 4 + f, none⟩ = some v
def RowB (w : World) (g : Nat) (a : Option Addr) (bs : List BP) : Prop := ∀ (j : Nat) (p : BP), bs[j]? = some p → a = some ⟨g, 0, none⟩ ∧ ∀ (f : Nat) (v : Value), (bcells p)[f]? = some v → w.cell? ⟨g, j * 5 + f, none⟩ = some v
end
end Go.Proofs.Ytmgephleogiaoaa
namespace Go.Proofs.Ytmgephleogiaoaa
open Go.RowKit Go.Maps
set_option linter.unusedVariables false
set_option linter.unusedSimpArgs false
def o57_0_0 : Oper := ⟨some 2, Op.box 24 (Operand.tmp 0), 0, "ref.go:76", #[], none⟩
def o57_0_1 : Oper := ⟨some 4, Op.assign (Operand.const (Value.slice none 0 0)), 73, "ref.go:76", #[], none⟩
def O57_0 : Array Oper := List.toArray (o57_0_0 :: o57_0_1 :: [])
def c57_1 : Code := Code.region 0 O57_0 false
def o57_1_0 : Oper := ⟨some 6, Op.fieldAddr 24 (Operand.tmp 2) 0, 0, "ref.go:77", #[], none⟩
def o57_1_1 : Oper := ⟨some 7, Op.load 3 (Operand.tmp 6), 3, "ref.go:77", #[ed_ 0], none⟩
def o57_1_2 : Oper := ⟨some 8, Op.binOp Go.BinOp.eql 3 (Operand.tmp 7) (Operand.const (Value.int IntKind.i64 1)) 3, 4, "ref.go:77", #[ed_ 1], none⟩
def o57_1_3 : Oper := ⟨some 9, Op.move (Operand.tmp 8), 4, "ref.go:77", #[ed_ 2], none⟩
def o57_1_4 : Oper := ⟨some 10, Op.move (Operand.tmp 1), 73, "ref.go:77", #[eg_ 3], some (3, true)⟩
def o57_1_5 : Oper := ⟨some 11, Op.fieldAddr 24 (Operand.tmp 2) 2, 0, "ref.go:77", #[eg_ 3], some (3, true)⟩
def o57_1_6 : Oper := ⟨some 12, Op.load 2 (Operand.tmp 11), 2, "ref.go:77", #[ed_ 5, eg_ 3], some (3, true)⟩
def o57_1_8 : Oper := ⟨some 14, Op.unOp Go.UnOp.not 4 (Operand.tmp 13), 4, "ref.go:77", #[ed_ 7, eg_ 3], some (3, true)⟩
def o57_1_9 : Oper := ⟨some 15, Op.pick (Operand.tmp 9) (Operand.tmp 14) (Operand.const (Value.bool false)), 4, "ref.go:77", #[ed_ 3, ed_ 8], none⟩
def o57_2_0 : Oper := ⟨some 16, Op.move (Operand.tmp 1), 73, "ref.go:78", #[], none⟩
def o57_2_1 : Oper := ⟨some 17, Op.fieldAddr 24 (Operand.tmp 2) 2, 0, "ref.go:78", #[], none⟩
def o57_2_2 : Oper := ⟨some 18, Op.load 2 (Operand.tmp 17), 2, "ref.go:78", #[ed_ 1], none⟩
def o57_2_3 : Oper := ⟨some 19, Op.buildSlice 73 1 #[(0, Operand.tmp 18)], 73, "ref.go:78", #[ed_ 2], none⟩
def o57_2_4 : Oper := ⟨some 20, Op.call { callee := Callee.builtin Go.Builtin.append, args := #[Operand.tmp 16, Operand.tmp 19], argTypes := #[73, 73] }, 73, "ref.go:78", #[ed_ 0, ed_ 3], none⟩
def o57_2_5 : Oper := ⟨some 1, Op.assign (Operand.tmp 20), 73, "ref.go:78", #[ed_ 4, ec_ 4, ep_ 0, ep_ 1, ep_ 2, ep_ 3, ep_ 4], none⟩
def O57_2 : Array Oper := List.toArray (o57_2_0 :: o57_2_1 :: o57_2_2 :: o57_2_3 :: o57_2_4 :: o57_2_5 :: [])
def c57_6 : Code := Code.region 2 O57_2 false
def c57_5 : Code := Code.cond (Operand.tmp 15) c57_6 Code.skip
def o57_3_0 : Oper := ⟨some 21, Op.fieldAddr 24 (Operand.tmp 2) 0, 0, "ref.go:80", #[], none⟩
def o57_3_1 : Oper := ⟨some 22, Op.load 3 (Operand.tmp 21), 3, "ref.go:80", #[ed_ 0], none⟩
def o57_3_2 : Oper := ⟨some 23, Op.binOp Go.BinOp.eql 3 (Operand.tmp 22) (Operand.const (Value.int IntKind.i64 4)) 3, 4, "ref.go:80", #[ed_ 1], none⟩
def O57_3 : Array Oper := List.toArray (o57_3_0 :: o57_3_1 :: o57_3_2 :: [])
def c57_10 : Code := Code.region 3 O57_3 false
def o57_4_0 : Oper := ⟨some 5, Op.assign (Operand.const (Value.int IntKind.i64 0)), 3, "ref.go:81", #[], none⟩
def O57_4 : Array Oper := List.toArray (o57_4_0 :: [])
def c57_13 : Code := Code.region 4 O57_4 false
def o57_5_0 : Oper := ⟨some 24, Op.move (Operand.tmp 5), 3, "ref.go:81", #[], none⟩
def o57_5_1 : Oper := ⟨some 25, Op.fieldAddr 24 (Operand.tmp 2) 3, 0, "ref.go:81", #[], none⟩
def o57_5_2 : Oper := ⟨some 26, Op.load 22 (Operand.tmp 25), 22, "ref.go:81", #[ed_ 1], none⟩
def o57_5_3 : Oper := ⟨some 27, Op.call { callee := Callee.builtin Go.Builtin.len, args := #[Operand.tmp 26], argTypes := #[22] }, 3, "ref.go:81", #[ed_ 2], none⟩
def o57_5_4 : Oper := ⟨some 28, Op.binOp Go.BinOp.lss 3 (Operand.tmp 24) (Operand.tmp 27) 3, 4, "ref.go:81", #[ed_ 0, ed_ 3], none⟩
def O57_5 : Array Oper := List.toArray (o57_5_0 :: o57_5_1 :: o57_5_2 :: o57_5_3 :: o57_5_4 :: [])
def c57_18 : Code := Code.region 5 O57_5 false
def c57_21 : Code := Code.exit 0
def c57_19 : Code := Code.cond (Operand.tmp 28) Code.skip c57_21
def c57_17 : Code := Code.seq c57_18 c57_19
def o57_7_0 : Oper := ⟨some 31, Op.fieldAddr 24 (Operand.tmp 2) 3, 0, "ref.go:82", #[], none⟩
def o57_7_1 : Oper := ⟨some 32, Op.load 22 (Operand.tmp 31), 22, "ref.go:82", #[ed_ 0], none⟩
def o57_7_2 : Oper := ⟨some 33, Op.move (Operand.tmp 5), 3, "ref.go:82", #[], none⟩
def o57_7_3 : Oper := ⟨some 34, Op.indexAddr 22 (Operand.tmp 32) (Operand.tmp 33), 0, "ref.go:82", #[ed_ 1, ed_ 2], none⟩
def o57_7_4 : Oper := ⟨some 35, Op.load 24 (Operand.tmp 34), 24, "ref.go:82", #[ed_ 3], none⟩
def o57_7_5 : Oper := ⟨some 36, Op.move (Operand.tmp 1), 73, "ref.go:82", #[], none⟩
def o57_7_7 : Oper := ⟨some 1, Op.assign (Operand.tmp 37), 73, "ref.go:82", #[ed_ 6, ec_ 6, ep_ 0, ep_ 1, ep_ 2, ep_ 3, ep_ 4, ep_ 5, ep_ 6], none⟩
def o57_6_0 : Oper := ⟨some 29, Op.move (Operand.tmp 5), 3, "ref.go:81", #[], none⟩
def o57_6_1 : Oper := ⟨some 30, Op.binOp Go.BinOp.add 3 (Operand.tmp 29) (Operand.const (Value.int IntKind.i64 1)) 3, 3, "ref.go:81", #[ed_ 0], none⟩
def o57_6_2 : Oper := ⟨some 5, Op.assign (Operand.tmp 30), 3, "ref.go:81", #[ed_ 1, ep_ 0, ep_ 1], none⟩
def O57_6 : Array Oper := List.toArray (o57_6_0 :: o57_6_1 :: o57_6_2 :: [])
def c57_25 : Code := Code.region 6 O57_6 false
def o57_8_0 : Oper := ⟨some 38, Op.move (Operand.tmp 1), 73, "ref.go:85", #[], none⟩
def o57_8_1 : Oper := ⟨some 4, Op.assign (Operand.tmp 38), 73, "ref.go:85", #[ed_ 0, ep_ 0], none⟩
def O57_8 : Array Oper := List.toArray (o57_8_0 :: o57_8_1 :: [])
def c57_28 : Code := Code.region 8 O57_8 false
def c57_27 : Code := Code.seq c57_28 Code.ret
def o25_0_0 : Oper := ⟨some 1, Op.box 24 (Operand.tmp 0), 0, "ref.go:89", #[], none⟩
def o25_0_1 : Oper := ⟨some 2, Op.assign (Operand.const (Value.slice none 0 0)), 73, "ref.go:89", #[], none⟩
def O25_0 : Array Oper := List.toArray (o25_0_0 :: o25_0_1 :: [])
def c25_1 : Code := Code.region 0 O25_0 false
def o25_1_0 : Oper := ⟨some 3, Op.load 24 (Operand.tmp 1), 24, "ref.go:89", #[], none⟩
def o25_1_1 : Oper := ⟨some 4, Op.buildSlice 73 0 #[], 73, "ref.go:89", #[], none⟩
def o25_1_3 : Oper := ⟨some 2, Op.assign (Operand.tmp 5), 73, "ref.go:89", #[ed_ 2, ec_ 2, ep_ 0, ep_ 1, ep_ 2], none⟩
end Go.Proofs.Ytmgephleogiaoaa
namespace Go.Proofs.Ytmgephleogiaoaa
open Go.RowKit Go.Maps
set_option linter.unusedVariables false
set_option linter.unusedSimpArgs false
def apL (bs : List BP) (t : Tm) : Tm := if t.k = 1 then (match bs.find? (fun q => q.1 == t.i) with | some q => mapT cpL q.2.1 | none => bareV t) else bareV t
def o70_0_0 : Oper := ⟨some 2, Op.box 24 (Operand.tmp 0), 0, "ref.go:322", #[], none⟩
def o70_0_1 : Oper := ⟨some 4, Op.alloc 24, 0, "ref.go:322", #[], none⟩
def O70_0 : Array Oper := List.toArray (o70_0_0 :: o70_0_1 :: [])
def c70_1 : Code := Code.region 0 O70_0 false
def o70_1_0 : Oper := ⟨some 8, Op.fieldAddr 24 (Operand.tmp 2) 0, 0, "ref.go:323", #[], none⟩
def o70_1_1 : Oper := ⟨some 9, Op.load 3 (Operand.tmp 8), 3, "ref.go:323", #[ed_ 0], none⟩
def o70_1_2 : Oper := ⟨some 10, Op.binOp Go.BinOp.eql 3 (Operand.tmp 9) (Operand.const (Value.int IntKind.i64 1)) 3, 4, "ref.go:323", #[ed_ 1], none⟩
def O70_1 : Array Oper := List.toArray (o70_1_0 :: o70_1_1 :: o70_1_2 :: [])
def c70_4 : Code := Code.region 1 O70_1 false
def o70_2_0 : Oper := ⟨some 5, Op.assign (Operand.const (Value.int IntKind.i64 0)), 3, "ref.go:324", #[], none⟩
def O70_2 : Array Oper := List.toArray (o70_2_0 :: [])
def c70_8 : Code := Code.region 2 O70_2 false
def o70_3_0 : Oper := ⟨some 11, Op.move (Operand.tmp 5), 3, "ref.go:324", #[], none⟩
def o70_3_1 : Oper := ⟨some 12, Op.move (Operand.tmp 1), 66, "ref.go:324", #[], none⟩
def o70_3_2 : Oper := ⟨some 13, Op.call { callee := Callee.builtin Go.Builtin.len, args := #[Operand.tmp 12], argTypes := #[66] }, 3, "ref.go:324", #[ed_ 1], none⟩
def o70_3_3 : Oper := ⟨some 14, Op.binOp Go.BinOp.lss 3 (Operand.tmp 11) (Operand.tmp 13) 3, 4, "ref.go:324", #[ed_ 0, ed_ 2], none⟩
def O70_3 : Array Oper := List.toArray (o70_3_0 :: o70_3_1 :: o70_3_2 :: o70_3_3 :: [])
def c70_13 : Code := Code.region 3 O70_3 false
def c70_16 : Code := Code.exit 0
def c70_14 : Code := Code.cond (Operand.tmp 14) Code.skip c70_16
def c70_12 : Code := Code.seq c70_13 c70_14
def o70_5_0 : Oper := ⟨some 17, Op.move (Operand.tmp 1), 66, "ref.go:325", #[], none⟩
def o70_5_1 : Oper := ⟨some 18, Op.move (Operand.tmp 5), 3, "ref.go:325", #[], none⟩
def o70_5_2 : Oper := ⟨some 19, Op.indexAddr 66 (Operand.tmp 17) (Operand.tmp 18), 0, "ref.go:325", #[ed_ 0, ed_ 1], none⟩
def o70_5_3 : Oper := ⟨some 20, Op.fieldAddr 72 (Operand.tmp 19) 0, 0, "ref.go:325", #[ed_ 2], none⟩
def o70_5_4 : Oper := ⟨some 21, Op.load 2 (Operand.tmp 20), 2, "ref.go:325", #[ed_ 3], none⟩
def o70_5_5 : Oper := ⟨some 22, Op.fieldAddr 24 (Operand.tmp 2) 2, 0, "ref.go:325", #[], none⟩
def o70_5_6 : Oper := ⟨some 23, Op.load 2 (Operand.tmp 22), 2, "ref.go:325", #[ed_ 5], none⟩
def o70_5_7 : Oper := ⟨some 24, Op.binOp Go.BinOp.eql 2 (Operand.tmp 21) (Operand.tmp 23) 2, 4, "ref.go:325", #[ed_ 4, ed_ 6], none⟩
def O70_5 : Array Oper := List.toArray (o70_5_0 :: o70_5_1 :: o70_5_2 :: o70_5_3 :: o70_5_4 :: o70_5_5 :: o70_5_6 :: o70_5_7 :: [])
def c70_20 : Code := Code.region 5 O70_5 true
def o70_6_0 : Oper := ⟨some 25, Op.move (Operand.tmp 1), 66, "ref.go:326", #[], none⟩
def o70_6_1 : Oper := ⟨some 26, Op.move (Operand.tmp 5), 3, "ref.go:326", #[], none⟩
def o70_6_2 : Oper := ⟨some 27, Op.indexAddr 66 (Operand.tmp 25) (Operand.tmp 26), 0, "ref.go:326", #[ed_ 0, ed_ 1], none⟩
def o70_6_3 : Oper := ⟨some 28, Op.fieldAddr 72 (Operand.tmp 27) 1, 0, "ref.go:326", #[ed_ 2], none⟩
def o70_6_4 : Oper := ⟨some 29, Op.load 24 (Operand.tmp 28), 24, "ref.go:326", #[ed_ 3], none⟩
def o70_6_6 : Oper := ⟨none, Op.store 24 (Operand.tmp 4) (Operand.tmp 30), 0, "ref.go:326", #[ed_ 5, ec_ 5, ep_ 0, ep_ 1, ep_ 2, ep_ 3, ep_ 4, ep_ 5], none⟩
def o70_4_0 : Oper := ⟨some 15, Op.move (Operand.tmp 5), 3, "ref.go:324", #[], none⟩
def o70_4_1 : Oper := ⟨some 16, Op.binOp Go.BinOp.add 3 (Operand.tmp 15) (Operand.const (Value.int IntKind.i64 1)) 3, 3, "ref.go:324", #[ed_ 0], none⟩
def o70_4_2 : Oper := ⟨some 5, Op.assign (Operand.tmp 16), 3, "ref.go:324", #[ed_ 1, ep_ 0, ep_ 1], none⟩
def O70_4 : Array Oper := List.toArray (o70_4_0 :: o70_4_1 :: o70_4_2 :: [])
def c70_26 : Code := Code.region 4 O70_4 false
def o70_7_0 : Oper := ⟨some 31, Op.load 24 (Operand.tmp 2), 24, "ref.go:329", #[], none⟩
def o70_7_2 : Oper := ⟨none, Op.store 24 (Operand.tmp 4) (Operand.tmp 32), 0, "ref.go:329", #[ed_ 1, ec_ 1, ep_ 0, ep_ 1], none⟩
def o70_8_0 : Oper := ⟨some 33, Op.fieldAddr 24 (Operand.tmp 2) 0, 0, "ref.go:331", #[], none⟩
def o70_8_1 : Oper := ⟨some 34, Op.load 3 (Operand.tmp 33), 3, "ref.go:331", #[ed_ 0], none⟩
def o70_8_2 : Oper := ⟨some 35, Op.binOp Go.BinOp.neq 3 (Operand.tmp 34) (Operand.const (Value.int IntKind.i64 4)) 3, 4, "ref.go:331", #[ed_ 1], none⟩
def O70_8 : Array Oper := List.toArray (o70_8_0 :: o70_8_1 :: o70_8_2 :: [])
def c70_33 : Code := Code.region 8 O70_8 false
def o70_9_0 : Oper := ⟨some 36, Op.load 24 (Operand.tmp 2), 24, "ref.go:332", #[], none⟩
def o70_9_2 : Oper := ⟨none, Op.store 24 (Operand.tmp 4) (Operand.tmp 37), 0, "ref.go:332", #[ed_ 1, ec_ 1, ep_ 0, ep_ 1], none⟩
def o70_10_0 : Oper := ⟨some 38, Op.fieldAddr 24 (Operand.tmp 2) 1, 0, "ref.go:334", #[], none⟩
def o70_10_1 : Oper := ⟨some 39, Op.load 9 (Operand.tmp 38), 9, "ref.go:334", #[ed_ 0], none⟩
def o70_10_2 : Oper := ⟨some 40, Op.build 24 #[(0, Operand.const (Value.int IntKind.i64 4)), (1, Operand.tmp 39)], 24, "ref.go:334", #[ed_ 1], none⟩
def o70_10_3 : Oper := ⟨some 6, Op.alloc 24, 0, "ref.go:334", #[], none⟩
def o70_10_4 : Oper := ⟨none, Op.store 24 (Operand.tmp 6) (Operand.tmp 40), 0, "ref.go:334", #[ed_ 3, ed_ 2, ep_ 0, ep_ 1, ep_ 2, ep_ 3], none⟩
def O70_10 : Array Oper := List.toArray (o70_10_0 :: o70_10_1 :: o70_10_2 :: o70_10_3 :: o70_10_4 :: [])
def c70_40 : Code := Code.region 10 O70_10 false
def o70_11_0 : Oper := ⟨some 7, Op.assign (Operand.const (Value.int IntKind.i64 0)), 3, "ref.go:335", #[], none⟩
def O70_11 : Array Oper := List.toArray (o70_11_0 :: [])
def c70_43 : Code := Code.region 11 O70_11 false
def o70_12_0 : Oper := ⟨some 41, Op.move (Operand.tmp 7), 3, "ref.go:335", #[], none⟩
def o70_12_1 : Oper := ⟨some 42, Op.fieldAddr 24 (Operand.tmp 2) 3, 0, "ref.go:335", #[], none⟩
def o70_12_2 : Oper := ⟨some 43, Op.load 22 (Operand.tmp 42), 22, "ref.go:335", #[ed_ 1], none⟩
def o70_12_3 : Oper := ⟨some 44, Op.call { callee := Callee.builtin Go.Builtin.len, args := #[Operand.tmp 43], argTypes := #[22] }, 3, "ref.go:335", #[ed_ 2], none⟩
def o70_12_4 : Oper := ⟨some 45, Op.binOp Go.BinOp.lss 3 (Operand.tmp 41) (Operand.tmp 44) 3, 4, "ref.go:335", #[ed_ 0, ed_ 3], none⟩
def O70_12 : Array Oper := List.toArray (o70_12_0 :: o70_12_1 :: o70_12_2 :: o70_12_3 :: o70_12_4 :: [])
def c70_48 : Code := Code.region 12 O70_12 false
def c70_51 : Code := Code.exit 2
def c70_49 : Code := Code.cond (Operand.tmp 45) Code.skip c70_51
def c70_47 : Code := Code.seq c70_48 c70_49
def o70_14_0 : Oper := ⟨some 48, Op.fieldAddr 24 (Operand.tmp 6) 3, 0, "ref.go:336", #[], none⟩
def o70_14_1 : Oper := ⟨some 49, Op.load 22 (Operand.tmp 48), 22, "ref.go:336", #[ed_ 0], none⟩
def o70_14_2 : Oper := ⟨some 50, Op.fieldAddr 24 (Operand.tmp 2) 3, 0, "ref.go:336", #[], none⟩
def o70_14_3 : Oper := ⟨some 51, Op.load 22 (Operand.tmp 50), 22, "ref.go:336", #[ed_ 2], none⟩
def o70_14_4 : Oper := ⟨some 52, Op.move (Operand.tmp 7), 3, "ref.go:336", #[], none⟩
def o70_14_5 : Oper := ⟨some 53, Op.indexAddr 22 (Operand.tmp 51) (Operand.tmp 52), 0, "ref.go:336", #[ed_ 3, ed_ 4], none⟩
def o70_14_6 : Oper := ⟨some 54, Op.load 24 (Operand.tmp 53), 24, "ref.go:336", #[ed_ 5], none⟩
def o70_14_7 : Oper := ⟨some 55, Op.move (Operand.tmp 1), 66, "ref.go:336", #[], none⟩
def o70_14_9 : Oper := ⟨some 57, Op.buildSlice 22 1 #[(0, Operand.tmp 56)], 22, "ref.go:336", #[ed_ 8], none⟩
def o70_14_10 : Oper := ⟨some 58, Op.call { callee := Callee.builtin Go.Builtin.append, args := #[Operand.tmp 49, Operand.tmp 57], argTypes := #[22, 22] }, 22, "ref.go:336", #[ed_ 1, ed_ 9, ec_ 8], none⟩
def o70_14_11 : Oper := ⟨some 59, Op.fieldAddr 24 (Operand.tmp 6) 3, 0, "ref.go:336", #[ep_ 0, ep_ 1, ep_ 2, ep_ 3, ep_ 4, ep_ 5, ep_ 6, ep_ 7, ep_ 8, ep_ 9, ep_ 10], none⟩
def o70_14_12 : Oper := ⟨none, Op.store 22 (Operand.tmp 59) (Operand.tmp 58), 0, "ref.go:336", #[ed_ 11, ed_ 10, ec_ 10, ep_ 0, ep_ 1, ep_ 2, ep_ 3, ep_ 4, ep_ 5, ep_ 6, ep_ 7, ep_ 8, ep_ 9, ep_ 10], none⟩
def o70_13_0 : Oper := ⟨some 46, Op.move (Operand.tmp 7), 3, "ref.go:335", #[], none⟩
def o70_13_1 : Oper := ⟨some 47, Op.binOp Go.BinOp.add 3 (Operand.tmp 46) (Operand.const (Value.int IntKind.i64 1)) 3, 3, "ref.go:335", #[ed_ 0], none⟩
def o70_13_2 : Oper := ⟨some 7, Op.assign (Operand.tmp 47), 3, "ref.go:335", #[ed_ 1, ep_ 0, ep_ 1], none⟩
def O70_13 : Array Oper := List.toArray (o70_13_0 :: o70_13_1 :: o70_13_2 :: [])
def c70_55 : Code := Code.region 13 O70_13 false
def o70_15_0 : Oper := ⟨some 60, Op.load 24 (Operand.tmp 6), 24, "ref.go:338", #[], none⟩
def o70_15_1 : Oper := ⟨none, Op.store 24 (Operand.tmp 4) (Operand.tmp 60), 0, "ref.go:338", #[ed_ 0, ep_ 0], none⟩
def O70_15 : Array Oper := List.toArray (o70_15_0 :: o70_15_1 :: [])
def c70_57 : Code := Code.region 15 O70_15 false
def c70_56 : Code := Code.seq c70_57 Code.ret
end Go.Proofs.Ytmgephleogiaoaa
namespace Go.Proofs.Ytmgephleogiaoaa
open Go.RowKit Go.Maps
set_option linter.unusedVariables false
set_option linter.unusedSimpArgs false
def bdK (m : Int) (l : List Int) (n : Nat) : List BP := (List.range n).map fun k => (l.getD k 0, .node 1 [] (m + (k : Int)) [], none, 0)
end Go.Proofs.Ytmgephleogiaoaa
namespace Go.Proofs.Ytmgephleogiaoaa
open Go.RowKit Go.Maps
set_option linter.unusedVariables false
set_option linter.unusedSimpArgs false
def o37_0_0 : Oper := ⟨some 2, Op.box 24 (Operand.tmp 0), 0, "ref.go:387", #[], none⟩
def o37_0_1 : Oper := ⟨some 4, Op.alloc 24, 0, "ref.go:387", #[], none⟩
def o37_0_2 : Oper := ⟨some 5, Op.assign (Operand.const (Value.int IntKind.i64 0)), 2, "ref.go:387", #[], none⟩
def O37_0 : Array Oper := List.toArray (o37_0_0 :: o37_0_1 :: o37_0_2 :: [])
def c37_1 : Code := Code.region 0 O37_0 false
def o37_1_0 : Oper := ⟨some 9, Op.load 24 (Operand.tmp 2), 24, "ref.go:388", #[], none⟩
def o37_1_2 : Oper := ⟨some 6, Op.assign (Operand.tmp 10), 73, "ref.go:388", #[ed_ 1, ec_ 1, ep_ 0, ep_ 1], none⟩
def o37_2_0 : Oper := ⟨some 11, Op.buildSlice 66 0 #[], 66, "ref.go:389", #[], none⟩
def o37_2_1 : Oper := ⟨some 7, Op.assign (Operand.tmp 11), 66, "ref.go:389", #[ed_ 0, ep_ 0], none⟩
def O37_2 : Array Oper := List.toArray (o37_2_0 :: o37_2_1 :: [])
def c37_5 : Code := Code.region 2 O37_2 false
def o37_3_0 : Oper := ⟨some 8, Op.assign (Operand.const (Value.int IntKind.i64 0)), 3, "ref.go:390", #[], none⟩
def O37_3 : Array Oper := List.toArray (o37_3_0 :: [])
def c37_8 : Code := Code.region 3 O37_3 false
def o37_4_0 : Oper := ⟨some 12, Op.move (Operand.tmp 8), 3, "ref.go:390", #[], none⟩
def o37_4_1 : Oper := ⟨some 13, Op.move (Operand.tmp 6), 73, "ref.go:390", #[], none⟩
def o37_4_2 : Oper := ⟨some 14, Op.call { callee := Callee.builtin Go.Builtin.len, args := #[Operand.tmp 13], argTypes := #[73] }, 3, "ref.go:390", #[ed_ 1], none⟩
def o37_4_3 : Oper := ⟨some 15, Op.binOp Go.BinOp.lss 3 (Operand.tmp 12) (Operand.tmp 14) 3, 4, "ref.go:390", #[ed_ 0, ed_ 2], none⟩
def O37_4 : Array Oper := List.toArray (o37_4_0 :: o37_4_1 :: o37_4_2 :: o37_4_3 :: [])
def c37_13 : Code := Code.region 4 O37_4 false
def c37_16 : Code := Code.exit 0
def c37_14 : Code := Code.cond (Operand.tmp 15) Code.skip c37_16
def c37_12 : Code := Code.seq c37_13 c37_14
def o37_6_0 : Oper := ⟨some 18, Op.move (Operand.tmp 7), 66, "ref.go:391", #[], none⟩
def o37_6_1 : Oper := ⟨some 19, Op.move (Operand.tmp 6), 73, "ref.go:391", #[], none⟩
def o37_6_2 : Oper := ⟨some 20, Op.move (Operand.tmp 8), 3, "ref.go:391", #[], none⟩
def o37_6_3 : Oper := ⟨some 21, Op.indexAddr 73 (Operand.tmp 19) (Operand.tmp 20), 0, "ref.go:391", #[ed_ 1, ed_ 2], none⟩
def o37_6_4 : Oper := ⟨some 22, Op.load 2 (Operand.tmp 21), 2, "ref.go:391", #[ed_ 3], none⟩
def o37_6_5 : Oper := ⟨some 23, Op.move (Operand.tmp 1), 2, "ref.go:391", #[], none⟩
def o37_6_6 : Oper := ⟨some 24, Op.move (Operand.tmp 8), 3, "ref.go:391", #[], none⟩
def o37_6_7 : Oper := ⟨some 25, Op.binOp Go.BinOp.add 2 (Operand.tmp 23) (Operand.tmp 24) 2, 2, "ref.go:391", #[ed_ 5, ed_ 6], none⟩
def o37_6_8 : Oper := ⟨some 26, Op.build 24 #[(0, Operand.const (Value.int IntKind.i64 1)), (2, Operand.tmp 25)], 24, "ref.go:391", #[ed_ 7], none⟩
def o37_6_9 : Oper := ⟨some 27, Op.build 72 #[(0, Operand.tmp 22), (1, Operand.tmp 26)], 72, "ref.go:391", #[ed_ 4, ed_ 8], none⟩
def o37_6_10 : Oper := ⟨some 28, Op.buildSlice 66 1 #[(0, Operand.tmp 27)], 66, "ref.go:391", #[ed_ 9], none⟩
def o37_6_11 : Oper := ⟨some 29, Op.call { callee := Callee.builtin Go.Builtin.append, args := #[Operand.tmp 18, Operand.tmp 28], argTypes := #[66, 66] }, 66, "ref.go:391", #[ed_ 0, ed_ 10], none⟩
def o37_6_12 : Oper := ⟨some 7, Op.assign (Operand.tmp 29), 66, "ref.go:391", #[ed_ 11, ec_ 11, ep_ 0, ep_ 1, ep_ 2, ep_ 3, ep_ 4, ep_ 5, ep_ 6, ep_ 7, ep_ 8, ep_ 9, ep_ 10, ep_ 11], none⟩
def O37_6 : Array Oper := List.toArray (o37_6_0 :: o37_6_1 :: o37_6_2 :: o37_6_3 :: o37_6_4 :: o37_6_5 :: o37_6_6 :: o37_6_7 :: o37_6_8 :: o37_6_9 :: o37_6_10 :: o37_6_11 :: o37_6_12 :: [])
def c37_19 : Code := Code.region 6 O37_6 false
def c37_18 : Code := Code.block 1 c37_19
def o37_5_0 : Oper := ⟨some 16, Op.move (Operand.tmp 8), 3, "ref.go:390", #[], none⟩
def o37_5_1 : Oper := ⟨some 17, Op.binOp Go.BinOp.add 3 (Operand.tmp 16) (Operand.const (Value.int IntKind.i64 1)) 3, 3, "ref.go:390", #[ed_ 0], none⟩
def o37_5_2 : Oper := ⟨some 8, Op.assign (Operand.tmp 17), 3, "ref.go:390", #[ed_ 1, ep_ 0, ep_ 1], none⟩
def O37_5 : Array Oper := List.toArray (o37_5_0 :: o37_5_1 :: o37_5_2 :: [])
def c37_20 : Code := Code.region 5 O37_5 false
def c37_17 : Code := Code.seq c37_18 c37_20
def c37_11 : Code := Code.seq c37_12 c37_17
def c37_10 : Code := Code.loop c37_11
def c37_9 : Code := Code.block 0 c37_10
def c37_7 : Code := Code.seq c37_8 c37_9
def o37_7_0 : Oper := ⟨some 30, Op.load 24 (Operand.tmp 2), 24, "ref.go:393", #[], none⟩
def o37_7_1 : Oper := ⟨some 31, Op.move (Operand.tmp 7), 66, "ref.go:393", #[], none⟩
def o37_7_3 : Oper := ⟨some 33, Op.move (Operand.tmp 1), 2, "ref.go:393", #[{ on := 7, ground := Go.Ground.gcOnly Go.Departure.lateStores }], none⟩
def o37_7_4 : Oper := ⟨some 34, Op.move (Operand.tmp 6), 73, "ref.go:393", #[], none⟩
def o37_7_5 : Oper := ⟨some 35, Op.call { callee := Callee.builtin Go.Builtin.len, args := #[Operand.tmp 34], argTypes := #[73] }, 3, "ref.go:393", #[ed_ 4], none⟩
def o37_7_6 : Oper := ⟨some 36, Op.binOp Go.BinOp.add 2 (Operand.tmp 33) (Operand.tmp 35) 2, 2, "ref.go:393", #[ed_ 3, ed_ 5, { on := 7, ground := Go.Ground.gcOnly Go.Departure.lateStores }], none⟩
def o37_7_7 : Oper := ⟨none, Op.store 24 (Operand.tmp 4) (Operand.tmp 32), 0, "ref.go:393", #[ed_ 2, ec_ 2, ep_ 0, ep_ 1, ep_ 2, { on := 3, ground := Go.Ground.textOnly Go.Departure.lateStores }, { on := 4, ground := Go.Ground.textOnly Go.Departure.lateStores }, { on := 5, ground := Go.Ground.textOnly Go.Departure.lateStoresUnsure }, { on := 6, ground := Go.Ground.textOnly Go.Departure.lateStores }], none⟩
def o37_7_8 : Oper := ⟨some 5, Op.assign (Operand.tmp 36), 2, "ref.go:393", #[ed_ 6, ec_ 7, ep_ 0, ep_ 1, ep_ 2, ep_ 3, ep_ 4, ep_ 5, ep_ 6, ep_ 7], none⟩
def o27_0_0 : Oper := ⟨some 2, Op.box 24 (Operand.tmp 0), 0, "ref.go:397", #[], none⟩
def o27_0_1 : Oper := ⟨some 3, Op.box 24 (Operand.tmp 1), 0, "ref.go:397", #[], none⟩
def o27_0_2 : Oper := ⟨some 4, Op.assign (Operand.const (Value.bool false)), 4, "ref.go:397", #[], none⟩
def O27_0 : Array Oper := List.toArray (o27_0_0 :: o27_0_1 :: o27_0_2 :: [])
def c27_1 : Code := Code.region 0 O27_0 false
def o27_1_0 : Oper := ⟨some 10, Op.load 24 (Operand.tmp 2), 24, "ref.go:398", #[], none⟩
def o27_1_3 : Oper := ⟨some 12, Op.extract (Operand.tmp 9) 0, 24, "ref.go:398", #[ed_ 2], none⟩
def o27_1_4 : Oper := ⟨some 13, Op.extract (Operand.tmp 9) 1, 2, "ref.go:398", #[ed_ 2, { on := 6, ground := Go.Ground.gcOnly Go.Departure.lateStores }], none⟩
def o27_1_5 : Oper := ⟨some 5, Op.alloc 24, 0, "ref.go:398", #[], none⟩
def o27_1_6 : Oper := ⟨none, Op.store 24 (Operand.tmp 5) (Operand.tmp 12), 0, "ref.go:398", #[ed_ 5, ed_ 3, ec_ 1, ep_ 0, ep_ 1, ep_ 2, ep_ 3, { on := 4, ground := Go.Ground.textOnly Go.Departure.lateStores }, ep_ 5], none⟩
def o27_1_7 : Oper := ⟨some 6, Op.assign (Operand.tmp 13), 2, "ref.go:398", #[ed_ 4, ec_ 6, ep_ 0, ep_ 1, ep_ 2, ep_ 3, ep_ 4, ep_ 5, ep_ 6], none⟩
def o27_2_0 : Oper := ⟨some 15, Op.load 24 (Operand.tmp 3), 24, "ref.go:399", #[], none⟩
def o27_2_3 : Oper := ⟨some 17, Op.extract (Operand.tmp 14) 0, 24, "ref.go:399", #[ed_ 2], none⟩
def o27_2_4 : Oper := ⟨some 18, Op.extract (Operand.tmp 14) 1, 2, "ref.go:399", #[ed_ 2, { on := 6, ground := Go.Ground.gcOnly Go.Departure.lateStores }], none⟩
def o27_2_5 : Oper := ⟨some 7, Op.alloc 24, 0, "ref.go:399", #[], none⟩
def o27_2_6 : Oper := ⟨none, Op.store 24 (Operand.tmp 7) (Operand.tmp 17), 0, "ref.go:399", #[ed_ 5, ed_ 3, ec_ 1, ep_ 0, ep_ 1, ep_ 2, ep_ 3, { on := 4, ground := Go.Ground.textOnly Go.Departure.lateStores }, ep_ 5], none⟩
def o27_2_7 : Oper := ⟨some 8, Op.assign (Operand.tmp 18), 2, "ref.go:399", #[ed_ 4, ec_ 6, ep_ 0, ep_ 1, ep_ 2, ep_ 3, ep_ 4, ep_ 5, ep_ 6], none⟩
def o27_3_0 : Oper := ⟨some 19, Op.load 24 (Operand.tmp 5), 24, "ref.go:400", #[], none⟩
def o27_3_1 : Oper := ⟨some 20, Op.load 24 (Operand.tmp 7), 24, "ref.go:400", #[], none⟩
def o27_3_2 : Oper := ⟨some 21, Op.call { callee := Callee.value (Operand.func 35), args := #[Operand.tmp 19, Operand.tmp 20], argTypes := #[24, 24] }, 4, "ref.go:400", #[ed_ 0, ed_ 1], none⟩
def o27_3_3 : Oper := ⟨some 4, Op.assign (Operand.tmp 21), 4, "ref.go:400", #[ed_ 2, ec_ 2, ep_ 0, ep_ 1, ep_ 2], none⟩
def O27_3 : Array Oper := List.toArray (o27_3_0 :: o27_3_1 :: o27_3_2 :: o27_3_3 :: [])
def c27_7 : Code := Code.region 3 O27_3 false
def c27_6 : Code := Code.seq c27_7 Code.ret
end Go.Proofs.Ytmgephleogiaoaa
namespace Go.Proofs.Ytmgephleogiaoaa
open Go.RowKit Go.Maps
set_option linter.unusedVariables false
set_option linter.unusedSimpArgs false
section
variable {w V : World} {t u : Tm} {a b : Option Addr} {c d : Nat}
def IBl (w : World) (B H : Nat) (ua : Option Addr) (n : Nat) : Prop := 0 < n → ∃ g cur, ua = some ⟨g, 0, none⟩ ∧ B ≤ g ∧ g < H ∧ Blk w g 2 cur ∧ n ≤ cur.size ∧ ∀ j, j < n → ∃ z, cur[j]? = some (.int .i64 z)
end
end Go.Proofs.Ytmgephleogiaoaa
namespace Go.Proofs.Ytmgephleogiaoaa
open Go.RowKit Go.Deep Go.ChangeShapes Go.WideShapes
set_option linter.unusedVariables false
theorem okWide_sliceH {P : Program} {w : World} {r : Go.Reach} {base : Nat} {t e : TypeId} {v : Value} (ht : P.underlying t = some (.slice e)) (h : Value.okWide P w r base t v) : ∃ a len cap, v = .slice a len cap ∧ ∀ g off, a = some ⟨g, off, none⟩ → g < w.heap.size := by
  obtain ⟨a, len, cap, rfl⟩ := okWide_slice ht h
  refine ⟨a, len, cap, rfl, fun g off ha => ?_⟩
  subst ha
  simp only [Value.okWide, ht, Cell.okWide, Cell.ok, World.has] at h
  obtain ⟨_, _, _, _, row, cells, hs, _⟩ := h
  rcases Nat.lt_or_ge g w.heap.size with h1 | h1
  · exact h1
  · unfold World.shape? at hs
    simp [Array.getElem?_eq_none h1] at hs
section
variable {H : Type} {enc : TypeId × Value → H} {w : World} {base : Nat} {spare : Nat → Bool} {held : Bool}
set_option maxRecDepth 100000 in
theorem tmsl_of {n len cap : Nat} {a : Option Addr} {x : DataW H × List MemPlace} (h : DataW.trod enc Try.prog w base spare held n 22 [.slice a len cap] = some x) :
    ∃ ps : List TP, ps.length = len ∧ TmSl w.heap.size w a ps ∧ ((x.1 = .nil ∧ len = 0) ∨ ∃ es sp, x.1 = .slice es sp ∧ es.length = len) := by
  rcases DataW.trod_slice Try.underlying22 h with ⟨hcs, hx⟩ | ⟨ad, len, cap, elems, rest, m2, rfl, hcs, hx, _, hl, hm, hel, hall, _⟩
  · simp at hcs
    obtain ⟨rfl, rfl, rfl⟩ := hcs
    exact ⟨[], rfl, fun j p hj => by simp at hj, .inl ⟨by rw [hx], rfl⟩⟩
  · simp at hcs
    obtain ⟨rfl, rfl, rfl⟩ := hcs
    have each : ∀ j, j < len → ∃ p : Tm × Option Addr × Nat, w.cells? base (ad.add (j * 4)) 4 = some (Tm.cells p.1 p.2.1 p.2.2) ∧ TmAt w.heap.size w p.1 p.2.1 p.2.2 := fun j hj => by
      have hj2 := hall j hj
      rw [cellsT, List.getElem?_eq_getElem (by rw [hel]; exact hj)] at hj2
      obtain ⟨cs', hc', ht'⟩ := Option.bind_eq_some_iff.1 hj2
      obtain ⟨t', a', c', rfl, hat⟩ := tm_of _ ht'
      exact ⟨(t', a', c'), hc', hat⟩
    obtain ⟨F, hF⟩ := choose_lt each
    refine ⟨(List.range len).map F, by simp, fun j p hj => ?_, .inr ⟨_, _, by rw [hx], by simpa using hel⟩⟩
    have hj2 : j < len := by
      rcases Nat.lt_or_ge j len with h1 | h1
      · exact h1
      · rw [List.getElem?_eq_none (by simpa using h1)] at hj; cases hj
    simp [hj2] at hj
    subst hj
    obtain ⟨hb, hlen', hcell⟩ := World.cells?_some (hF j hj2).1
    obtain ⟨b, off, spot⟩ := ad
    have hspot : spot = none := by
      obtain ⟨_, _, hc0⟩ := World.cells?_some (hF 0 (by omega)).1
      have h0 := World.cell?_spot ((hc0 0 (by omega)).trans rfl)
      simpa [Addr.add] using h0
    subst hspot
    have hadd : ∀ f : Nat, ((⟨b, off, none⟩ : Addr).add (j * 4)).add f = ⟨b, off + (j * 4 + f), none⟩ := fun f => by
      by_cases hj0 : j = 0
      · subst hj0
        by_cases hf0 : f = 0
        · subst hf0; simp [Addr.add]
        · simp [Addr.add, hf0]
      · have h4 : ¬ j * 4 = 0 := by omega
        unfold Addr.add
        rw [if_neg h4]
        by_cases hf0 : f = 0
        · subst hf0; simp
        · rw [if_neg hf0]
          simp [Nat.add_assoc]
    have hlt4 : ∀ (f : Nat) (v : Value), (Tm.cells (F j).1 (F j).2.1 (F j).2.2)[f]? = some v → f < 4 := fun f v hv => by
      rcases Nat.lt_or_ge f 4 with h1 | h1
      · exact h1
      · rw [List.getElem?_eq_none (by simpa [Tm.cells] using h1)] at hv; cases hv
    have h0 := hcell 0 (by omega)
    rw [hadd 0] at h0
    refine ⟨⟨b, off, rfl, cell_blk (h0.trans rfl), fun f v hv => ?_⟩, (hF j hj2).2⟩
    have := hcell f (hlt4 f v hv)
    rw [hadd f] at this
    exact this.trans hv
theorem bytesTm : Try.prog.bytesOf 24 = 56 := by kernel_rfl
end
end Go.Proofs.Ytmgephleogiaoaa
